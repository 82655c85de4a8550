/-
  OUR OWN TEXT. The iterator over the edges of points: its contract, for every loop body that keeps what lay below.
-/
import Derived.Test.YthjnfjnnpabenaaGreatDoorEdgeK
namespace Go.Proofs.YthjnfjnnpabenaaGreatDoor
open Go.RowKit Go.Shelf
attribute [local go_sem] Oper.semAt_some

set_option maxRecDepth 100000 in
set_option maxHeartbeats 2000000 in
theorem edges1_in (n : Nat) (hn : 1 ≤ n) (l Bs n₀ b off cap len : Nat) (pts : List P2) (hpl : Hid (pts.length = len)) (hlen : len ≤ 1048576) (hb : b < n₀) (J Jx : List (Fin pts.length) → World → Prop)
    (hY : ∀ pre x W, J pre W → pre.length < pts.length → YieldAt Fence.wide (n - 1) Tryz.prog l #[.int .i64 (x.1 : Int), .agg #[.int .i64 (ptAt pts x.1).1, .int .i64 (ptAt pts x.1).2, .int .i64 (ptAt pts (nxt pts x.1)).1, .int .i64 (ptAt pts (nxt pts x.1)).2]] W fun e W' =>
      (e = .returned (.bool true) ∧ J (pre ++ [x]) W' ∧ KB n₀ Bs W W') ∨ (e = .returned (.bool false) ∧ Jx (pre ++ [x]) W'))
    (W : World) (hBs : W.cell? ⟨Bs, 0, none⟩ = some (.slice (some ⟨b, off, none⟩) len cap)) (hn0 : n₀ ≤ W.heap.size)
    (hc : ∀ j, j < len → W.cell? ⟨b, off + j * 2, none⟩ = some (.int .i64 (ptAt pts j).1) ∧ W.cell? ⟨b, off + j * 2 + 1, none⟩ = some (.int .i64 (ptAt pts j).2)) (hA : ∀ pre A B, J pre A → A.grownBy B none → J pre B) (h0 : J [] W) :
    CallsIn Fence.wide n Tryz.prog 76 #[.func (.yield l) #[] #[], .pointer (some ⟨Bs, 0, none⟩)] W fun e W' => (∃ v, e = .returned v) ∧
      ((∃ ys, ys = List.finRange pts.length ∧ J ys W') ∨ (∃ pre, (∃ k, k ≤ pts.length ∧ pre = upto pts.length k) ∧ Jx pre W')) := by
  have hmx : Tryz.prog.follows .mixedOrders = true := by kernel_rfl
  refine callsIn_of_wp Tryz.func76 rfl trivial ?_ rfl
  simp only [Tryz.ntmps76, List.size_toArray, List.length_cons, List.length_nil, Nat.reduceAdd, Nat.reduceSub, Array.replicate_succ, Array.replicate_zero, List.push_toArray, List.append_toArray, List.nil_append, List.cons_append]
  gi_wp2
  gi_loopw [7] (fun i wr => ∃ k : Nat, k ≤ len ∧ i = .int .i64 k ∧ J (upto pts.length k) wr ∧ KB n₀ Bs W wr)
    (fun i _ => len - (intOf i).toNat)
  case atStart => exact ⟨0, Nat.zero_le _, rfl, by simpa [upto] using h0, KB.refl _ _ _⟩
  case round =>
    obtain ⟨k, hk, rfl, hJs, hkb⟩ := hrel
    have hnx := hkb.1
    by_cases hlt : k < len
    · have hcx := hc k hlt
      have hcx1 : wr.cell? ⟨b, off + k * 2, none⟩ = some (.int .i64 (ptAt pts k).1) := (hnx.cell (p := ⟨b, off + k * 2, none⟩) hb).trans hcx.1
      have hcx2 : wr.cell? ⟨b, off + k * 2 + 1, none⟩ = some (.int .i64 (ptAt pts k).2) := (hnx.cell (p := ⟨b, off + k * 2 + 1, none⟩) hb).trans hcx.2
      have hBx : wr.cell? ⟨Bs, 0, none⟩ = some (.slice (some ⟨b, off, none⟩) len cap) := (hkb.cell 0).trans hBs
      have zB : Bs < wr.heap.size := World.block_lt_of_cell? _ _ hBx
      have zb : b < wr.heap.size := World.block_lt_of_cell? _ _ hcx1
      have hlt' : k < pts.length := by rw [hpl.out]; exact hlt
      have hm : nxt pts k < len := by have := nxt_lt (l := pts) (i := k) (by omega); rwa [hpl.out] at this
      have hz : ((len : Int) == 0) = false := by rw [beq_eq_false_iff_ne]; omega
      have hcn := hc (nxt pts k) hm
      have hcn1 : wr.cell? ⟨b, off + nxt pts k * 2, none⟩ = some (.int .i64 (ptAt pts (nxt pts k)).1) := (hnx.cell (p := ⟨b, off + nxt pts k * 2, none⟩) hb).trans hcn.1
      have hcn2 : wr.cell? ⟨b, off + nxt pts k * 2 + 1, none⟩ = some (.int .i64 (ptAt pts (nxt pts k)).2) := (hnx.cell (p := ⟨b, off + nxt pts k * 2 + 1, none⟩) hb).trans hcn.2
      have hJ2 : J (upto pts.length k) (wr.alloc (.cells #[.int .i64 (ptAt pts k).1, .int .i64 (ptAt pts k).2] 73)).drew := hA _ _ _ (hA _ _ _ hJs (World.grownBy_alloc _ _ none)) ⟨rfl, rfl, rfl, Nat.le_refl _, fun _ _ _ => rfl⟩
      obtain ⟨fn, tmps, assign, body, hy, hR⟩ := hY _ ⟨k, hlt'⟩ _ hJ2 (by simp [upto]; omega)
      dsimp only at hy
      have hR2 := hR.mono (R' := fun e W' => ∃ v : Bool, e = .returned (.bool v) ∧ ((v = true ∧ J (upto pts.length k ++ [⟨k, hlt'⟩]) W' ∧ KB n₀ Bs (wr.alloc (.cells #[.int .i64 (ptAt pts k).1, .int .i64 (ptAt pts k).2] 73)).drew W') ∨ (v = false ∧ Jx (upto pts.length k ++ [⟨k, hlt'⟩]) W'))) (by
        rintro e W' (⟨rfl, h1, h2⟩ | ⟨rfl, h1⟩)
        · exact ⟨true, rfl, .inl ⟨rfl, h1, h2⟩⟩
        · exact ⟨false, rfl, .inr ⟨rfl, h1⟩⟩)
      have hq : IntKind.i64.wrap ((k : Int) + 1) = (k : Int) + 1 := wrap_small (by omega) (by omega)
      have hq1 : ((k : Int) + 1).tmod (len : Int) = (nxt pts k : Int) := by
        rw [Int.tmod_eq_emod_of_nonneg (by omega)]; unfold nxt; rw [hpl.out]; simp
      clear hR hY hJ2 hcx hcn hc
      gi_wp2
      gi_region_with_o (refine hR2.mono ?_; clear hR2; rintro e W3 ⟨v, rfl, hv⟩)
      all_goals (rcases hv with ⟨rfl, hJ3, hk3⟩ | ⟨rfl, hJx3⟩)
      all_goals gi_wp2
      all_goals first
        | (refine bodyPost_ret (results_none rfl _ _ _) rfl ?_
           exact ⟨⟨_, rfl⟩, .inr ⟨_, ⟨k + 1, by rw [hpl.out]; omega, (upto_succ hlt').symm⟩, hJx3⟩⟩)
        | skip
      all_goals go_roundw
      all_goals first
        | exact ⟨k + 1, by omega, by simp, by rw [upto_succ hlt']; exact hJ3, hkb.trans (((KB.refl n₀ Bs wr).alloc (by have := hnx.size; omega) zB _).drew.trans hk3)⟩
        | (simp [intOf]; omega)
    · obtain rfl : k = len := by omega
      gi_wp2
      go_end0
      exact ⟨⟨_, rfl⟩, .inl ⟨_, by rw [← hpl.out]; exact upto_all _, hJs⟩⟩
set_option maxHeartbeats 1000000 in
/-- No points, no edges. -/
theorem edges0_in (n : Nat) (l Bs cap : Nat) (a : Option Addr) (pts : List P2) (hpl : pts = []) (J Jx : List (Fin pts.length) → World → Prop) (W : World) (hBs : W.cell? ⟨Bs, 0, none⟩ = some (.slice a 0 cap)) (h0 : J [] W) :
    CallsIn Fence.wide n Tryz.prog 76 #[.func (.yield l) #[] #[], .pointer (some ⟨Bs, 0, none⟩)] W fun e W' => (∃ v, e = .returned v) ∧
      ((∃ ys, ys = List.finRange pts.length ∧ J ys W') ∨ (∃ pre, (∃ k, k ≤ pts.length ∧ pre = upto pts.length k) ∧ Jx pre W')) := by
  refine callsIn_of_wp Tryz.func76 rfl trivial ?_ rfl
  simp only [Tryz.ntmps76, List.size_toArray, List.length_cons, List.length_nil, Nat.reduceAdd, Nat.reduceSub, Array.replicate_succ, Array.replicate_zero, List.push_toArray, List.append_toArray, List.nil_append, List.cons_append]
  gi_wp2
  gi_loopw [7] (fun i wr => i = .int .i64 0 ∧ J [] wr) (fun _ _ => 0)
  case atStart => exact ⟨rfl, h0⟩
  case round =>
    obtain ⟨rfl, hJ⟩ := hrel
    gi_wp2
    go_end0
    exact ⟨⟨_, rfl⟩, .inl ⟨[], by subst hpl; rfl, hJ⟩⟩
end Go.Proofs.YthjnfjnnpabenaaGreatDoor
