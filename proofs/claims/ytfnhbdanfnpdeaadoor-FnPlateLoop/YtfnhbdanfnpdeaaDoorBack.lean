/-
  OUR OWN TEXT. slices.Backward over slices of points: its contract, for every loop body that keeps what lay below.
-/
import Derived.Test.YtfnhbdanfnpdeaaDoorEdgeS
namespace Go.Proofs.YtfnhbdanfnpdeaaDoor
open Go.RowKit Go.Shelf
attribute [local go_sem] Oper.semAt_some

/-- A row of slices of points: where it lies. -/
def SlcRow (n₀ : Nat) (W : World) (a : Option Addr) (len : Nat) (A : Nat → Option Addr) (L C : Nat → Nat) : Prop :=
  len = 0 ∨ ∃ b off, a = some ⟨b, off, none⟩ ∧ b < n₀ ∧ ∀ j, j < len → W.cell? ⟨b, off + j, none⟩ = some (.slice (A j) (L j) (C j))
theorem SlcRow.below {n₀ : Nat} {W W' : World} {a : Option Addr} {len : Nat} {A : Nat → Option Addr} {L C : Nat → Nat} (h : SlcRow n₀ W a len A L C) (k : Below n₀ W W') : SlcRow n₀ W' a len A L C := by
  rcases h with h | ⟨b, off, e, hb, hc⟩
  · exact .inl h
  · exact .inr ⟨b, off, e, hb, fun j hj => (k.cell (p := ⟨b, off + j, none⟩) hb).trans (hc j hj)⟩
theorem SlcRow.grow {n₀ n₁ : Nat} {W : World} {a : Option Addr} {len : Nat} {A : Nat → Option Addr} {L C : Nat → Nat} (h : SlcRow n₀ W a len A L C) (k : n₀ ≤ n₁) : SlcRow n₁ W a len A L C :=
  h.imp id fun ⟨b, off, e, hb, hc⟩ => ⟨b, off, e, by omega, hc⟩
/-- What comes up: a place, and the slice there. -/
def encB (len : Nat) (A : Nat → Option Addr) (L C : Nat → Nat) (x : Fin len) : Array Value := #[.int .i64 (x.1 : Int), .slice (A x.1) (L x.1) (C x.1)]
/-- From the last one on, so many. -/
def downto (n k : Nat) : List (Fin n) := (List.finRange n).reverse.take k
theorem downto_succ {n k : Nat} (h : k < n) : downto n (k + 1) = downto n k ++ [⟨n - 1 - k, by omega⟩] := by
  unfold downto; rw [List.take_add_one, List.getElem?_reverse (by simpa using h)]; simp
  rw [List.getElem?_eq_getElem (by simp; omega)]; simp
theorem downto_all (n : Nat) : downto n n = (List.finRange n).reverse := by
  unfold downto; exact List.take_of_length_le (by simp)
set_option maxHeartbeats 1000000 in
theorem back_in (n : Nat) (a : Option Addr) (len cap : Nat) (w : World) :
    CallsIn Fence.wide n Tryd.prog 67 #[.slice a len cap] w fun e w' => e = .returned (.func (.func 91) #[] #[.pointer (some ⟨w.heap.size, 0, none⟩)]) ∧ w' = w.alloc (.cells #[.slice a len cap] 38) := by
  refine callsIn_of_wp Tryd.func67 rfl trivial ?_ rfl
  simp only [Tryd.ntmps67, List.size_toArray, List.length_cons, List.length_nil, Nat.reduceAdd, Nat.reduceSub, Array.replicate_succ, Array.replicate_zero, List.push_toArray, List.append_toArray, List.nil_append, List.cons_append]
  gi_wp2
  go_ret
  exact ⟨rfl, rfl⟩
set_option maxRecDepth 100000 in
set_option maxHeartbeats 2000000 in
theorem back1_in (n : Nat) (hn : 1 ≤ n) (l Bs n₀ b off cap len : Nat) (A : Nat → Option Addr) (L C : Nat → Nat) (hlen : len ≤ 1048576) (hb : b < n₀) (J Jx : List (Fin len) → World → Prop)
    (hY : ∀ pre x W, J pre W → pre.length < len → YieldAt Fence.wide (n - 1) Tryd.prog l (encB len A L C x) W fun e W' =>
      (e = .returned (.bool true) ∧ J (pre ++ [x]) W' ∧ KB n₀ Bs W W') ∨ (e = .returned (.bool false) ∧ Jx (pre ++ [x]) W'))
    (W : World) (hBs : W.cell? ⟨Bs, 0, none⟩ = some (.slice (some ⟨b, off, none⟩) len cap)) (_ : n₀ ≤ W.heap.size)
    (hc : ∀ j, j < len → W.cell? ⟨b, off + j, none⟩ = some (.slice (A j) (L j) (C j))) (h0 : J [] W) :
    CallsIn Fence.wide n Tryd.prog 91 #[.func (.yield l) #[] #[], .pointer (some ⟨Bs, 0, none⟩)] W fun e W' => (∃ v, e = .returned v) ∧
      ((∃ ys, ys = (List.finRange len).reverse ∧ J ys W') ∨ (∃ pre, (∃ k, k ≤ len ∧ pre = downto len k) ∧ Jx pre W')) := by
  have hmx : Tryd.prog.follows .mixedOrders = true := by kernel_rfl
  refine callsIn_of_wp Tryd.func91 rfl trivial ?_ rfl
  simp only [Tryd.ntmps91, List.size_toArray, List.length_cons, List.length_nil, Nat.reduceAdd, Nat.reduceSub, Array.replicate_succ, Array.replicate_zero, List.push_toArray, List.append_toArray, List.nil_append, List.cons_append]
  have hq0 : IntKind.i64.wrap ((len : Int) - 1) = (len : Int) - 1 := wrap_small (by omega) (by omega)
  gi_wp2
  gi_loopw [3] (fun i wr => ∃ k : Nat, k ≤ len ∧ i = .int .i64 ((len : Int) - 1 - k) ∧ J (downto len k) wr ∧ KB n₀ Bs W wr)
    (fun i _ => (intOf i + 1).toNat)
  case atStart => exact ⟨0, Nat.zero_le _, by simp, by simpa [downto] using h0, KB.refl _ _ _⟩
  case round =>
    obtain ⟨k, hk, rfl, hJs, hkb⟩ := hrel
    have hnx := hkb.1
    by_cases hlt : k < len
    · obtain ⟨m, hm⟩ : ∃ m : Nat, len - 1 - k = m := ⟨_, rfl⟩
      have hmi : (len : Int) - 1 - k = (m : Int) := by omega
      have hmn : m < len := by omega
      rw [hmi]
      have hcx : wr.cell? ⟨b, off + m, none⟩ = some (.slice (A m) (L m) (C m)) := (hnx.cell (p := ⟨b, off + m, none⟩) hb).trans (hc m hmn)
      have hBx : wr.cell? ⟨Bs, 0, none⟩ = some (.slice (some ⟨b, off, none⟩) len cap) := (hkb.cell 0).trans hBs
      have zB : Bs < wr.heap.size := World.block_lt_of_cell? _ _ hBx
      obtain ⟨fn, tmps, assign, body, hy, hR⟩ := hY _ ⟨m, hmn⟩ _ hJs (by simp [downto]; omega)
      unfold encB at hy
      dsimp only at hy
      have hd : downto len (k + 1) = downto len k ++ [⟨m, hmn⟩] := by rw [downto_succ hlt]; simp [hm]
      have hR2 := hR.mono (R' := fun e W' => ∃ v : Bool, e = .returned (.bool v) ∧ ((v = true ∧ J (downto len k ++ [⟨m, hmn⟩]) W' ∧ KB n₀ Bs wr W') ∨ (v = false ∧ Jx (downto len k ++ [⟨m, hmn⟩]) W'))) (by
        rintro e W' (⟨rfl, h1, h2⟩ | ⟨rfl, h1⟩)
        · exact ⟨true, rfl, .inl ⟨rfl, h1, h2⟩⟩
        · exact ⟨false, rfl, .inr ⟨rfl, h1⟩⟩)
      have hq : IntKind.i64.wrap ((m : Int) - 1) = (m : Int) - 1 := wrap_small (by omega) (by omega)
      have i0 : (0 : Int) ≤ (m : Int) := Int.natCast_nonneg _
      have i1 : (m : Int) < (len : Int) := by omega
      clear hR hY hc
      gi_wp2
      refine hR2.mono ?_
      clear hR2
      rintro e W3 ⟨v, rfl, hv⟩
      rcases hv with ⟨rfl, hJ3, hk3⟩ | ⟨rfl, hJx3⟩
      all_goals gi_wp2
      all_goals first
        | (refine bodyPost_ret (results_none rfl _ _ _) rfl ?_
           exact ⟨⟨_, rfl⟩, .inr ⟨_, ⟨k + 1, by omega, hd.symm⟩, hJx3⟩⟩)
        | skip
      all_goals go_roundw
      all_goals first
        | exact ⟨k + 1, by omega, by have e : (m : Int) - 1 = (len : Int) - 1 - ((k + 1 : Nat) : Int) := (by omega); rw [e], by rw [hd]; exact hJ3, hkb.trans hk3⟩
        | (simp [intOf])
    · obtain rfl : k = len := by omega
      have hneg : ¬ (0 ≤ (k : Int) - 1 - k) := by omega
      have hneg2 : (k : Int) - 1 - k < 0 := by omega
      gi_wp2
      go_end0
      rw [downto_all] at hJs
      first
        | exact ⟨⟨_, rfl⟩, .inl ⟨_, rfl, hJs⟩⟩
        | exact ⟨⟨_, rfl⟩, .inl hJs⟩
set_option maxHeartbeats 1000000 in
/-- Nothing there, nothing comes. -/
theorem back0_in (n : Nat) (l Bs cap : Nat) (a : Option Addr) (J Jx : List (Fin 0) → World → Prop) (W : World) (hBs : W.cell? ⟨Bs, 0, none⟩ = some (.slice a 0 cap)) (h0 : J [] W) :
    CallsIn Fence.wide n Tryd.prog 91 #[.func (.yield l) #[] #[], .pointer (some ⟨Bs, 0, none⟩)] W fun e W' => (∃ v, e = .returned v) ∧
      ((∃ ys, ys = (List.finRange 0).reverse ∧ J ys W') ∨ (∃ pre, (∃ k, k ≤ 0 ∧ pre = downto 0 k) ∧ Jx pre W')) := by
  refine callsIn_of_wp Tryd.func91 rfl trivial ?_ rfl
  simp only [Tryd.ntmps91, List.size_toArray, List.length_cons, List.length_nil, Nat.reduceAdd, Nat.reduceSub, Array.replicate_succ, Array.replicate_zero, List.push_toArray, List.append_toArray, List.nil_append, List.cons_append]
  gi_wp2
  gi_loopw [3] (fun i wr => i = .int .i64 (-1) ∧ J [] wr) (fun _ _ => 0)
  case atStart => exact ⟨rfl, h0⟩
  case round =>
    obtain ⟨rfl, hJ⟩ := hrel
    gi_wp2
    go_end0
    exact ⟨⟨_, rfl⟩, .inl ⟨[], by rfl, hJ⟩⟩
theorem back_stops (n : Nat) (hn : 1 ≤ n) (B n₀ : Nat) (a : Option Addr) (len cap : Nat) (A : Nat → Option Addr) (L C : Nat → Nat) (w : World) (hB : B < w.heap.size) (hn₀ : n₀ ≤ w.heap.size) (hlen : len ≤ 1048576)
    (hc : w.cell? ⟨B, 0, none⟩ = some (.slice a len cap)) (hP : SlcRow n₀ w a len A L C) :
    SeqStopsK Fence.wide n Tryd.prog 91 #[.pointer (some ⟨B, 0, none⟩)] (encB len A L C) (KB n₀ B) (fun ys => ys = (List.finRange len).reverse) (fun pre => ∃ k, k ≤ len ∧ pre = downto len k) len w := by
  intro l J Jx W hW _ _ hY h0
  have hcW := (hW.cell (p := ⟨B, 0, none⟩) hB).trans hc
  rcases hP.below (hW.mono hn₀) with rfl | ⟨b, off, rfl, hb, hcs⟩
  · exact back0_in n l B cap a J Jx W hcW h0
  · exact back1_in n hn l B n₀ b off cap len A L C hlen hb J Jx hY W hcW (by have := hW.size; omega) hcs h0
end Go.Proofs.YtfnhbdanfnpdeaaDoor
