/-
  OUR OWN TEXT. What the exact laws mark, hold, and hold against each other, by contract: rows of points, rows of segments.
-/
import Derived.Test.YthedlopfjlnogaaEqPts
import Derived.Test.YthedlopfjlnogaaSEdge
import Derived.Test.YthedlopfjlnogaaReader
namespace Go.Proofs.Ythedlopfjlnogaa
open Go.RowKit Go.Sort

/-- A block of our own of so many cells. -/
def Own (W : World) (g n : Nat) (t : TypeId) : Prop := ∃ cur : Array Value, W.heap[g]? = some (.cells cur t (0, 0)) ∧ cur.size = n
theorem Own.lt {W : World} {g n : Nat} {t : TypeId} (h : Own W g n t) : g < W.heap.size := by obtain ⟨cur, h, _⟩ := h; exact (Array.getElem?_eq_some_iff.1 h).1
theorem Own.room {W : World} {g n i : Nat} {t : TypeId} (h : Own W g n t) (hi : i < n) : (∃ u, W.cell? ⟨g, i, none⟩ = some u) ∧ W.frozen? ⟨g, i, none⟩ = false := by
  obtain ⟨cur, h, hs⟩ := h
  exact ⟨⟨cur[i]'(by omega), by rw [row_cell h]; exact Array.getElem?_eq_getElem _⟩, row_frozen h⟩
theorem Own.set {W : World} {g n i : Nat} {t : TypeId} (h : Own W g n t) (v : Value) : Own (W.setCell ⟨g, i, none⟩ v) g n t := by
  obtain ⟨cur, h, hs⟩ := h
  exact ⟨_, setCell_row h v, by simpa using hs⟩
theorem Own.below {W W' : World} {g n : Nat} {t : TypeId} (h : Own W g n t) (J : Below W.heap.size W W') : Own W' g n t := by
  have hl := h.lt
  obtain ⟨cur, h, hs⟩ := h
  exact ⟨cur, (J.block g hl).trans h, hs⟩
theorem Own.only {W W' : World} {g n r : Nat} {t : TypeId} (h : Own W g n t) (O : Only r W W') (hne : g ≠ r) : Own W' g n t := by
  have hl := h.lt
  obtain ⟨cur, h, hs⟩ := h
  exact ⟨cur, (O.block g hne hl).trans h, hs⟩
theorem own_set_cell {W : World} {g n i j : Nat} {t : TypeId} (h : Own W g n t) (hi : i < n) (v : Value) : (W.setCell ⟨g, i, none⟩ v).cell? ⟨g, j, none⟩ = if i = j then some v else W.cell? ⟨g, j, none⟩ := by
  obtain ⟨cur, h, hs⟩ := h
  rw [row_cell (setCell_row h v), row_cell h, Array.getElem?_setIfInBounds]
  by_cases e : i = j
  · rw [if_pos e, if_pos e, if_pos (by omega)]
  · rw [if_neg e, if_neg e]
/-- The cells of a block, from the first on, are k, k + 1, and so on. -/
def Num (W : World) (g n : Nat) (k : Int) : Prop := ∀ j, j < n → W.cell? ⟨g, j, none⟩ = some (.int .i64 (k + j))
theorem Num.below {W W' : World} {g n : Nat} {k : Int} (h : Num W g n k) (hg : g < W.heap.size) (J : Below W.heap.size W W') : Num W' g n k := fun j hj => (J.cell (p := ⟨g, j, none⟩) hg).trans (h j hj)
theorem Num.snoc {W : World} {g n m : Nat} {t : TypeId} {k u : Int} (h : Own W g n t) (hN : Num W g m k) (hm : m < n) (hu : u = k + m) : Num (W.setCell ⟨g, m, none⟩ (.int .i64 u)) g (m + 1) k := by
  intro j hj
  rw [own_set_cell h hm]
  by_cases e : m = j
  · rw [if_pos e, hu, e]
  · rw [if_neg e]; exact hN j (by omega)
set_option maxRecDepth 100000 in
set_option maxHeartbeats 1000000 in
theorem markPts_any (g len cap n : Nat) (k : Int) (w : World) (hb : Own w g n 33) (hn : len * 2 ≤ n) (hlen : len ≤ 1048576) (k0 : 0 ≤ k) (k1 : k ≤ 1125899906842624) :
    Calls Try.prog 37 #[.slice (some ⟨g, 0, none⟩) len cap, .int .i64 k] w fun e w' => e = .returned (.int .i64 (k + 2 * len)) ∧ Own w' g n 33 ∧ Only g w w' := by
  go_enter Try.func37, Try.ntmps37
  go_wp2_with fail
  go_loopw [1, 5] (fun kk i wr => ∃ (j : Nat) (u : Int), j ≤ len ∧ i = .int .i64 j ∧ kk = .int .i64 u ∧ u = k + 2 * (j : Int) ∧ Own wr g n 33 ∧ Only g w wr) (fun _ i _ => len - (intOf i).toNat)
  case atStart => exact ⟨0, k, Nat.zero_le _, rfl, rfl, by simp, hb, Only.refl _ _⟩
  case round =>
    obtain ⟨j, u, hj, rfl, rfl, hu, hO, P⟩ := hrel
    by_cases hlt : j < len
    · have u0 : 0 ≤ u := by omega
      have u1 : u ≤ 2251799813685248 := by omega
      have Hu : Hid (u = k + 2 * (j : Int)) := hu
      clear hu
      have i0 : (0 : Int) ≤ (j : Int) := Int.natCast_nonneg _
      have i1 : (j : Int) < (len : Int) := by omega
      obtain ⟨⟨s0, r0⟩, z0⟩ := hO.room (i := j * 2) (by omega)
      obtain ⟨⟨s1, r1⟩, z1⟩ := hO.room (i := j * 2 + 1) (by omega)
      go_wp2_with fail
      go_roundw
      case rel => exact ⟨j + 1, u + 1 + 1, by omega, by simp, by simp, by rw [Hu.out]; omega, (hO.set _).set _, (P.set (.inl rfl) _).set (.inl rfl) _⟩
      case measure => simp [intOf]; omega
    · obtain rfl : j = len := by omega
      go_wp2
      go_ret
      exact ⟨by first | exact hu | (simp; omega) | (subst hu; rfl), hO, P⟩
set_option maxRecDepth 100000 in
set_option maxHeartbeats 1000000 in
theorem markSegs_any (g len cap n : Nat) (k : Int) (w : World) (hb : Own w g n 44) (hn : len * 4 ≤ n) (hlen : len ≤ 1048576) (k0 : 0 ≤ k) (k1 : k ≤ 1099511627776) :
    Calls Try.prog 31 #[.slice (some ⟨g, 0, none⟩) len cap, .int .i64 k] w fun e w' => e = .returned (.int .i64 (k + 4 * len)) ∧ Num w' g (len * 4) k ∧ Own w' g n 44 ∧ Only g w w' := by
  go_enter Try.func31, Try.ntmps31
  go_wp2_with fail
  go_loopw [1, 5] (fun kk i wr => ∃ (j : Nat) (u : Int), j ≤ len ∧ i = .int .i64 j ∧ kk = .int .i64 u ∧ u = k + 4 * (j : Int) ∧ Num wr g (j * 4) k ∧ Own wr g n 44 ∧ Only g w wr) (fun _ i _ => len - (intOf i).toNat)
  case atStart => exact ⟨0, k, Nat.zero_le _, rfl, rfl, by simp, fun j hj => by omega, hb, Only.refl _ _⟩
  case round =>
    obtain ⟨j, u, hj, rfl, rfl, hu, hN, hO, P⟩ := hrel
    by_cases hlt : j < len
    · have u0 : 0 ≤ u := by omega
      have u1 : u ≤ 8796093022208 := by omega
      have Hu : Hid (u = k + 4 * (j : Int)) := hu
      clear hu
      have i0 : (0 : Int) ≤ (j : Int) := Int.natCast_nonneg _
      have i1 : (j : Int) < (len : Int) := by omega
      obtain ⟨⟨s0, r0⟩, z0⟩ := hO.room (i := j * 4) (by omega)
      obtain ⟨⟨s1, r1⟩, z1⟩ := hO.room (i := j * 4 + 1) (by omega)
      obtain ⟨⟨s2, r2⟩, z2⟩ := hO.room (i := j * 4 + 2) (by omega)
      obtain ⟨⟨s3, r3⟩, z3⟩ := hO.room (i := j * 4 + 3) (by omega)
      go_wp2_with fail
      have hO1 := hO.set (i := j * 4) (.int .i64 u)
      have hO2 := hO1.set (i := j * 4 + 1) (.int .i64 (u + 1))
      have hO3 := hO2.set (i := j * 4 + 2) (.int .i64 (u + 1 + 1))
      have hN1 := hN.snoc hO (u := u) (by omega) (by rw [Hu.out]; simp; omega)
      have hN2 := hN1.snoc hO1 (u := u + 1) (by omega) (by rw [Hu.out]; simp; omega)
      have hN3 := hN2.snoc hO2 (u := u + 1 + 1) (by omega) (by rw [Hu.out]; simp; omega)
      have hN4 := hN3.snoc hO3 (u := u + 1 + 1 + 1) (by omega) (by rw [Hu.out]; simp; omega)
      go_roundw
      case rel => exact ⟨j + 1, u + 1 + 1 + 1 + 1, by omega, by simp, by simp, by rw [Hu.out]; omega, fun i hi => hN4 i (by omega), hO3.set _, (((P.set (.inl rfl) _).set (.inl rfl) _).set (.inl rfl) _).set (.inl rfl) _⟩
      case measure => simp [intOf]; omega
    · obtain rfl : j = len := by omega
      go_wp2
      go_ret
      exact ⟨by first | exact hu | (simp; omega) | (subst hu; rfl), hN, hO, P⟩
set_option maxRecDepth 100000 in
set_option maxHeartbeats 1000000 in
theorem heldSegs_any (g len cap : Nat) (k : Int) (w : World) (hN : Num w g (len * 4) k) (hg : g < w.heap.size) (hlen : len ≤ 1048576) (k0 : 0 ≤ k) (k1 : k ≤ 1099511627776) :
    Calls Try.prog 32 #[.slice (some ⟨g, 0, none⟩) len cap, .int .i64 k] w fun e w' => e = .returned (.int .i64 (k + 4 * len)) ∧ Below w.heap.size w w' := by
  go_enter Try.func32, Try.ntmps32
  go_wp2_with fail
  go_loopw [1, 5] (fun kk i wr => ∃ (j : Nat) (u : Int), j ≤ len ∧ i = .int .i64 j ∧ kk = .int .i64 u ∧ u = k + 4 * (j : Int) ∧ Below w.heap.size w wr) (fun _ i _ => len - (intOf i).toNat)
  case atStart => exact ⟨0, k, Nat.zero_le _, rfl, rfl, by simp, bw_refl _⟩
  case round =>
    obtain ⟨j, u, hj, rfl, rfl, hu, hnx⟩ := hrel
    by_cases hlt : j < len
    · have u0 : 0 ≤ u := by omega
      have u1 : u ≤ 8796093022208 := by omega
      have Hu : Hid (u = k + 4 * (j : Int)) := hu
      have hNr := hN.below hg hnx
      have c0 : wr.cell? ⟨g, j * 4, none⟩ = some (.int .i64 u) := by rw [hNr _ (by omega)]; congr 2; rw [hu]; simp; omega
      have c1 : wr.cell? ⟨g, j * 4 + 1, none⟩ = some (.int .i64 (u + 1)) := by rw [hNr _ (by omega)]; congr 2; rw [hu]; simp; omega
      have c2 : wr.cell? ⟨g, j * 4 + 2, none⟩ = some (.int .i64 (u + 1 + 1)) := by rw [hNr _ (by omega)]; congr 2; rw [hu]; simp; omega
      have c3 : wr.cell? ⟨g, j * 4 + 3, none⟩ = some (.int .i64 (u + 1 + 1 + 1)) := by rw [hNr _ (by omega)]; congr 2; rw [hu]; simp; omega
      clear hu hNr
      have i0 : (0 : Int) ≤ (j : Int) := Int.natCast_nonneg _
      have i1 : (j : Int) < (len : Int) := by omega
      go_wp2_with fail
      go_roundw
      case rel => exact ⟨j + 1, u + 1 + 1 + 1 + 1, by omega, by simp, by simp, by rw [Hu.out]; omega, hnx⟩
      case measure => simp [intOf]; omega
    · obtain rfl : j = len := by omega
      go_wp2
      go_ret
      exact ⟨by first | exact hu | (simp; omega) | (subst hu; rfl), hnx⟩
end Go.Proofs.Ythedlopfjlnogaa
