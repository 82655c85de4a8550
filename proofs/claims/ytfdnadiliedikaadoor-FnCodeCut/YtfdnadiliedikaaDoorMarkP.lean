/-
  OUR OWN TEXT. What the exact laws mark, hold, and hold against each other, where rows of points are handed back, by contract.
-/
import Derived.Test.YtfdnadiliedikaaDoorEqPts
import Derived.Test.YtfdnadiliedikaaDoorLuL
import Derived.Test.YtfdnadiliedikaaDoorReader
namespace Go.Proofs.YtfdnadiliedikaaDoor
open Go.RowKit Go.Sort

/-- A block of our own of so many cells. -/
def Own (W : World) (g n : Nat) (t : TypeId) : Prop := ∃ cur : Array Value, W.heap[g]? = some (.cells cur t (0, 0)) ∧ cur.size = n
theorem Own.lt {W : World} {g n : Nat} {t : TypeId} (h : Own W g n t) : g < W.heap.size := by obtain ⟨cur, h, _⟩ := h; exact (Array.getElem?_eq_some_iff.1 h).1
theorem Own.room {W : World} {g n i : Nat} {t : TypeId} (h : Own W g n t) (hi : i < n) : (∃ u, W.cell? ⟨g, i, none⟩ = some u) ∧ W.frozen? ⟨g, i, none⟩ = false := by
  obtain ⟨cur, h, hs⟩ := h
  exact ⟨⟨cur[i]'(by omega), by rw [row_cell h]; exact Array.getElem?_eq_getElem _⟩, row_frozen h⟩
theorem Own.set {W : World} {g n i : Nat} {t : TypeId} (h : Own W g n t) (v : Value) : Own (W.setCell ⟨g, i, none⟩ v) g n t := by
  obtain ⟨cur, h, hs⟩ := h
  exact ⟨_, setCell_row h v, by simpa using hs⟩
theorem Own.below {W W' : World} {g n : Nat} {t : TypeId} (h : Own W g n t) (J : Below W.heap.size W W') : Own W' g n t := by
  have hl := h.lt
  obtain ⟨cur, h, hs⟩ := h
  exact ⟨cur, (J.block g hl).trans h, hs⟩
theorem Own.only {W W' : World} {g n r : Nat} {t : TypeId} (h : Own W g n t) (O : Only r W W') (hne : g ≠ r) : Own W' g n t := by
  have hl := h.lt
  obtain ⟨cur, h, hs⟩ := h
  exact ⟨cur, (O.block g hne hl).trans h, hs⟩
theorem own_set_cell {W : World} {g n i j : Nat} {t : TypeId} (h : Own W g n t) (hi : i < n) (v : Value) : (W.setCell ⟨g, i, none⟩ v).cell? ⟨g, j, none⟩ = if i = j then some v else W.cell? ⟨g, j, none⟩ := by
  obtain ⟨cur, h, hs⟩ := h
  rw [row_cell (setCell_row h v), row_cell h, Array.getElem?_setIfInBounds]
  by_cases e : i = j
  · rw [if_pos e, if_pos e, if_pos (by omega)]
  · rw [if_neg e, if_neg e]
/-- The cells of a block, from the first on, are k, k + 1, and so on. -/
def Num (W : World) (g n : Nat) (k : Int) : Prop := ∀ j, j < n → W.cell? ⟨g, j, none⟩ = some (.int .i64 (k + j))
theorem Num.below {W W' : World} {g n : Nat} {k : Int} (h : Num W g n k) (hg : g < W.heap.size) (J : Below W.heap.size W W') : Num W' g n k := fun j hj => (J.cell (p := ⟨g, j, none⟩) hg).trans (h j hj)
theorem Num.snoc {W : World} {g n m : Nat} {t : TypeId} {k u : Int} (h : Own W g n t) (hN : Num W g m k) (hm : m < n) (hu : u = k + m) : Num (W.setCell ⟨g, m, none⟩ (.int .i64 u)) g (m + 1) k := by
  intro j hj
  rw [own_set_cell h hm]
  by_cases e : m = j
  · rw [if_pos e, hu, e]
  · rw [if_neg e]; exact hN j (by omega)
theorem PtBlk.own {W : World} {g c n : Nat} {l : List P2} (h : PtBlk W g c l n) : Own W g (c * 2) 42 := by obtain ⟨cur, h, hs, _⟩ := h; exact ⟨cur, h, hs⟩
set_option maxRecDepth 100000 in
set_option maxHeartbeats 1000000 in
theorem markPts_any (g len cap n : Nat) (k : Int) (w : World) (hb : Own w g n 42) (hn : len * 2 ≤ n) (hlen : len ≤ 1048576) (k0 : 0 ≤ k) (k1 : k ≤ 1125899906842624) :
    Calls Tryd.prog 23 #[.slice (some ⟨g, 0, none⟩) len cap, .int .i64 k] w fun e w' => e = .returned (.int .i64 (k + 2 * len)) ∧ Num w' g (len * 2) k ∧ Own w' g n 42 ∧ Only g w w' := by
  go_enter Tryd.func23, Tryd.ntmps23
  go_wp2_with fail
  go_loopw [1, 5] (fun kk i wr => ∃ (j : Nat) (u : Int), j ≤ len ∧ i = .int .i64 j ∧ kk = .int .i64 u ∧ u = k + 2 * (j : Int) ∧ Num wr g (j * 2) k ∧ Own wr g n 42 ∧ Only g w wr) (fun _ i _ => len - (intOf i).toNat)
  case atStart => exact ⟨0, k, Nat.zero_le _, rfl, rfl, by simp, fun j hj => by omega, hb, Only.refl _ _⟩
  case round =>
    obtain ⟨j, u, hj, rfl, rfl, hu, hN, hO, P⟩ := hrel
    by_cases hlt : j < len
    · have u0 : 0 ≤ u := by omega
      have u1 : u ≤ 2251799813685248 := by omega
      have Hu : Hid (u = k + 2 * (j : Int)) := hu
      clear hu
      have i0 : (0 : Int) ≤ (j : Int) := Int.natCast_nonneg _
      have i1 : (j : Int) < (len : Int) := by omega
      obtain ⟨⟨s0, r0⟩, z0⟩ := hO.room (i := j * 2) (by omega)
      obtain ⟨⟨s1, r1⟩, z1⟩ := hO.room (i := j * 2 + 1) (by omega)
      go_wp2_with fail
      have hO1 := hO.set (i := j * 2) (.int .i64 u)
      have hN1 := hN.snoc hO (u := u) (by omega) (by rw [Hu.out]; simp; omega)
      have hN2 := hN1.snoc hO1 (u := u + 1) (by omega) (by rw [Hu.out]; simp; omega)
      go_roundw
      case rel => exact ⟨j + 1, u + 1 + 1, by omega, by simp, by simp, by rw [Hu.out]; omega, fun i hi => hN2 i (by omega), hO1.set _, (P.set (.inl rfl) _).set (.inl rfl) _⟩
      case measure => simp [intOf]; omega
    · obtain rfl : j = len := by omega
      go_wp2
      go_ret
      exact ⟨by first | exact hu | (simp; omega) | (subst hu; rfl), hN, hO, P⟩
set_option maxRecDepth 100000 in
set_option maxHeartbeats 1000000 in
theorem heldPts_any (g len cap : Nat) (k : Int) (w : World) (hN : Num w g (len * 2) k) (hg : g < w.heap.size) (hlen : len ≤ 1048576) (k0 : 0 ≤ k) (k1 : k ≤ 1125899906842624) :
    Calls Tryd.prog 24 #[.slice (some ⟨g, 0, none⟩) len cap, .int .i64 k] w fun e w' => e = .returned (.int .i64 (k + 2 * len)) ∧ Below w.heap.size w w' := by
  go_enter Tryd.func24, Tryd.ntmps24
  go_wp2_with fail
  go_loopw [1, 5] (fun kk i wr => ∃ (j : Nat) (u : Int), j ≤ len ∧ i = .int .i64 j ∧ kk = .int .i64 u ∧ u = k + 2 * (j : Int) ∧ Below w.heap.size w wr) (fun _ i _ => len - (intOf i).toNat)
  case atStart => exact ⟨0, k, Nat.zero_le _, rfl, rfl, by simp, bw_refl _⟩
  case round =>
    obtain ⟨j, u, hj, rfl, rfl, hu, hnx⟩ := hrel
    by_cases hlt : j < len
    · have u0 : 0 ≤ u := by omega
      have u1 : u ≤ 2251799813685248 := by omega
      have Hu : Hid (u = k + 2 * (j : Int)) := hu
      have hNr := hN.below hg hnx
      have c0 : wr.cell? ⟨g, j * 2, none⟩ = some (.int .i64 u) := by rw [hNr _ (by omega)]; congr 2; rw [hu]; simp; omega
      have c1 : wr.cell? ⟨g, j * 2 + 1, none⟩ = some (.int .i64 (u + 1)) := by rw [hNr _ (by omega)]; congr 2; rw [hu]; simp; omega
      clear hu hNr
      have i0 : (0 : Int) ≤ (j : Int) := Int.natCast_nonneg _
      have i1 : (j : Int) < (len : Int) := by omega
      go_wp2_with fail
      go_roundw
      case rel => exact ⟨j + 1, u + 1 + 1, by omega, by simp, by simp, by rw [Hu.out]; omega, hnx⟩
      case measure => simp [intOf]; omega
    · obtain rfl : j = len := by omega
      go_wp2
      go_ret
      exact ⟨by first | exact hu | (simp; omega) | (subst hu; rfl), hnx⟩
/-- A slice of points of our own memory, or none. -/
def AnsT (base top : Nat) (W : World) (v : Value) (l : List P2) : Prop :=
  (l = [] ∧ ∃ a c, v = .slice a 0 c) ∨ ∃ g c, v = .slice (some ⟨g, 0, none⟩) l.length c ∧ base ≤ g ∧ g < top ∧ l.length ≤ c ∧ PtBlk W g c l l.length
theorem AnsT.below {base top : Nat} {W W' : World} {v : Value} {l : List P2} (h : AnsT base top W v l) (J : Below W.heap.size W W') : AnsT base top W' v l := by
  rcases h with h | ⟨g, c, e, hb, ht, hc, hB⟩
  · exact .inl h
  · exact .inr ⟨g, c, e, hb, ht, hc, hB.below J⟩
theorem AnsT.only {base top r : Nat} {W W' : World} {v : Value} {l : List P2} (h : AnsT base top W v l) (O : Only r W W') (hr : r < base ∨ top ≤ r) : AnsT base top W' v l := by
  rcases h with h | ⟨g, c, e, hb, ht, hc, hB⟩
  · exact .inl h
  · exact .inr ⟨g, c, e, hb, ht, hc, blk_only hB O (by omega)⟩
theorem AnsT.of_own {base n : Nat} {W : World} {v : Value} {l : List P2} (h : W.ownsRow base 42 2 v n (ptCells l)) (hn : l.length = n) : AnsT base W.heap.size W v l := by
  rcases Nat.eq_zero_or_pos n with h0 | h0
  · subst h0
    rcases h.2 with ⟨h, _⟩ | ⟨g, cap, cur, e, hb, hg, h1, h2, hs, ht⟩
    · exact .inl ⟨List.eq_nil_of_length_eq_zero hn, _, _, h⟩
    · exact .inl ⟨List.eq_nil_of_length_eq_zero hn, _, _, e⟩
  · obtain ⟨g2, c2, rfl, _, _⟩ := h.form (by omega)
    obtain ⟨hb3, h1, h2, h3⟩ := blk_of_own h hn
    exact .inr ⟨g2, c2, by rw [hn], h3, hb3.lt, by rw [hn]; exact h1, by rw [hn]; exact hb3⟩
theorem AnsT.own {base top : Nat} {W : World} {v : Value} {l : List P2} (h : AnsT base top W v l) : ∃ a c, v = .slice a l.length c ∧ Pts W.heap.size W a l.length l := by
  rcases h with ⟨rfl, a, c, rfl⟩ | ⟨g, c, rfl, hb, ht, hc, hB⟩
  · exact ⟨a, c, rfl, rfl, .inl rfl⟩
  · exact ⟨_, c, rfl, hB.pts' rfl⟩
theorem eqAns_same (base top base' top' : Nat) (va vb : Value) (l : List P2) (w : World) (hA : AnsT base top w va l) (hB : AnsT base' top' w vb l) (hlen : l.length ≤ 1048576) :
    Calls Tryd.prog 22 #[va, vb] w fun e w' => e = .returned (.bool true) ∧ Below w.heap.size w w' := by
  obtain ⟨a, c, rfl, PA⟩ := hA.own
  obtain ⟨a', c', rfl, PB⟩ := hB.own
  exact eqPts_same a a' l.length c c' l w PA PB hlen
/-- A slice of points that bears the marks. -/
def MarkT (base top : Nat) (W : World) (v : Value) (n : Nat) : Prop :=
  (n = 0 ∧ ∃ a c, v = .slice a 0 c) ∨ ∃ g c, v = .slice (some ⟨g, 0, none⟩) n c ∧ base ≤ g ∧ g < top ∧ g < W.heap.size ∧ Num W g (n * 2) 1
theorem MarkT.below {base top n : Nat} {W W' : World} {v : Value} (h : MarkT base top W v n) (J : Below W.heap.size W W') : MarkT base top W' v n := by
  rcases h with h | ⟨g, c, e, hb, ht, hg, hN⟩
  · exact .inl h
  · exact .inr ⟨g, c, e, hb, ht, Nat.lt_of_lt_of_le hg J.size, hN.below hg J⟩
set_option maxRecDepth 100000 in
set_option maxHeartbeats 1000000 in
theorem markNil_any (a : Option Addr) (c : Nat) (w : World) : Calls Tryd.prog 23 #[.slice a 0 c, .int .i64 1] w fun e w' => e = .returned (.int .i64 1) ∧ Below w.heap.size w w' := by
  go_enter Tryd.func23, Tryd.ntmps23
  go_wp2_with fail
  refine wp_loop_rounds 1 ?_
  rw [rounds_succ]
  go_wp2_with fail
  go_ret
  exact ⟨rfl, bw_refl _⟩
theorem markAns_any (base top : Nat) (v : Value) (l : List P2) (w : World) (hA : AnsT base top w v l) (hlen : l.length ≤ 1048576) :
    Calls Tryd.prog 23 #[v, .int .i64 1] w fun e w' => e = .returned (.int .i64 (1 + 2 * l.length)) ∧ MarkT base top w' v l.length ∧ ∃ r, base ≤ r ∧ (r < top ∨ w.heap.size ≤ r) ∧ Only r w w' := by
  rcases hA with ⟨rfl, a, c, rfl⟩ | ⟨g, c, rfl, hb, ht, hc, hB⟩
  · refine (markNil_any a c w).mono ?_
    rintro e w' ⟨rfl, J⟩
    refine ⟨rfl, .inl ⟨rfl, a, c, rfl⟩, max base w.heap.size, by omega, .inr (by omega), ⟨J.os, J.tape, J.output, J.size, fun j _ hj => J.block j hj⟩⟩
  · refine (markPts_any g l.length c (c * 2) 1 w hB.own (by omega) hlen (by omega) (by omega)).mono ?_
    rintro e w' ⟨rfl, hN, hO, O⟩
    exact ⟨rfl, .inr ⟨g, c, rfl, hb, ht, hO.lt, hN⟩, g, hb, .inl ht, O⟩
set_option maxRecDepth 100000 in
set_option maxHeartbeats 1000000 in
theorem heldNil_any (a : Option Addr) (c : Nat) (w : World) : Calls Tryd.prog 24 #[.slice a 0 c, .int .i64 1] w fun e w' => e = .returned (.int .i64 1) ∧ Below w.heap.size w w' := by
  go_enter Tryd.func24, Tryd.ntmps24
  go_wp2_with fail
  refine wp_loop_rounds 1 ?_
  rw [rounds_succ]
  go_wp2_with fail
  go_ret
  exact ⟨rfl, bw_refl _⟩
theorem heldAns_any (base top n : Nat) (v : Value) (w : World) (hA : MarkT base top w v n) (hlen : n ≤ 1048576) :
    Calls Tryd.prog 24 #[v, .int .i64 1] w fun e w' => e = .returned (.int .i64 (1 + 2 * n)) ∧ Below w.heap.size w w' := by
  rcases hA with ⟨rfl, a, c, rfl⟩ | ⟨g, c, rfl, hb, ht, hg, hN⟩
  · exact heldNil_any a c w
  · exact heldPts_any g n c 1 w hN hg hlen (by omega) (by omega)
end Go.Proofs.YtfdnadiliedikaaDoor
