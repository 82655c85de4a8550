/-
  OUR OWN TEXT. The specification's drawn points, by contract: whatever the bytes are, what is drawn lies within small bounds; nothing that was there is written.
-/
import Derived.Test.YtfdnadiliedikaaDoorReader
namespace Go.Proofs.YtfdnadiliedikaaDoor
open Go.RowKit

/-- The bounds of a drawn point. -/
def PB (x y : Int) : Prop := -2 ≤ x ∧ x ≤ 11 ∧ -2 ≤ y ∧ y ≤ 11

set_option maxHeartbeats 1000000 in
theorem l71Pt_any (k : Nat) (a : Option Addr) (len cap r : Nat) (w : World) (hk : k ≤ 900000) (R : Rd w r k a len cap) :
    Calls Tryd.prog 51 #[.pointer (some ⟨r, 0, none⟩)] w fun e w' => ∃ (x y : Int) (k' : Nat), e = .returned (.agg #[.int .i64 x, .int .i64 y]) ∧ PB x y ∧ k' ≤ k + 4 ∧ Rd w' r k' a len cap ∧ Only r w w' := by
  have hlt := R.lt
  have P := (Only.refl r w).alloc (.cells #[.int .i64 0, .int .i64 0] 42)
  have B0 := heap_new w (.cells #[.int .i64 0, .int .i64 0] 42)
  replace R := R.alloc (.cells #[.int .i64 0, .int .i64 0] 42)
  go_enter Tryd.func51, Tryd.ntmps51
  go_wp2_with fail
  refine (pick_rd 10 (k) a len cap r _ (by omega) (by omega) R).mono ?_
  clear R
  rintro e w1 ⟨x, rfl, xa, xb, R, O⟩
  replace B0 := keepO O B0 (by omega)
  replace P := P.trans O
  have z_w1 := P.size
  have y_w1_B0 := blk_lt B0
  clear O
  go_wp2_with fail
  refine (pick_rd 10 (k + 1) a len cap r _ (by omega) (by omega) R).mono ?_
  clear R
  rintro e w2 ⟨y, rfl, ya, yb, R, O⟩
  replace B0 := keepO O B0 (by omega)
  replace P := P.trans O
  have z_w2 := P.size
  have y_w2_B0 := blk_lt B0
  clear O
  go_wp2_with fail
  refine (pick_rd 40 (k + 1 + 1) a len cap r _ (by omega) (by omega) (R.alloc _)).mono ?_
  clear R
  rintro e w3 ⟨v, rfl, va, vb, R, O⟩
  replace B0 := keepO O ((heap_old _ _ (blk_lt B0)).trans B0) (by omega)
  have B1 := keepO O (heap_new _ _) (by omega)
  replace P := (P.alloc _).trans O
  have z_w3 := P.size
  have y_w3_B0 := blk_lt B0
  have y_w3_B1 := blk_lt B1
  clear O
  have hne : w.heap.size ≠ w2.heap.size := by omega
  have hv : v = 0 ∨ v = 1 ∨ ((v == 0) = false ∧ (v == 1) = false) := by simp; omega
  rcases hv with hv | hv | ⟨hv, hv'⟩
  · subst hv
    go_wp2_with fail
    refine (pick_rd 2 (k + 1 + 1 + 1) a len cap r _ (by omega) (by omega) (R.alloc _)).mono ?_
    clear R
    rintro e w4 ⟨u, rfl, ua, ub, R, O⟩
    replace B0 := keepO O ((heap_old _ _ (blk_lt B0)).trans B0) (by omega)
    replace B1 := keepO O ((heap_old _ _ (blk_lt B1)).trans B1) (by omega)
    have B2 := keepO O (heap_new _ _) (by omega)
    replace P := (P.alloc _).trans O
    have z_w4 := P.size
    have y_w4_B0 := blk_lt B0
    have y_w4_B1 := blk_lt B1
    have y_w4_B2 := blk_lt B2
    clear O
    obtain ⟨a0, a1, af0, af1⟩ := blk2 B0
    obtain ⟨b0, b1, bf0, bf1⟩ := blk2 B1
    obtain ⟨c0, c1, cf0, cf1⟩ := blk2 B2
    have hc : u = 0 ∨ u = 1 := by omega
    rcases hc with hc | hc
    · subst hc
      go_wp2_with fail
      exact bodyPost_ret (v := .agg #[.int .i64 (-1), .int .i64 y]) (by simp [results, Tryd.results51, go_sem, a0, a1]) rfl ⟨(-1), y, k + 1 + 1 + 1 + 1, rfl, by unfold PB; omega, by omega, ((R.set (by show r < w2.heap.size; omega) _).set hlt _).set hlt _, ((P.set (.inr (by show w.heap.size ≤ w2.heap.size; omega)) _).set (.inr (Nat.le_refl _)) _).set (.inr (Nat.le_refl _)) _⟩
    · subst hc
      go_wp2_with fail
      exact bodyPost_ret (v := .agg #[.int .i64 10, .int .i64 y]) (by simp [results, Tryd.results51, go_sem, a0, a1]) rfl ⟨10, y, k + 1 + 1 + 1 + 1, rfl, by unfold PB; omega, by omega, ((R.set (by show r < w2.heap.size; omega) _).set hlt _).set hlt _, ((P.set (.inr (by show w.heap.size ≤ w2.heap.size; omega)) _).set (.inr (Nat.le_refl _)) _).set (.inr (Nat.le_refl _)) _⟩
  · subst hv
    go_wp2_with fail
    refine (pick_rd 2 (k + 1 + 1 + 1) a len cap r _ (by omega) (by omega) (R.alloc _)).mono ?_
    clear R
    rintro e w4 ⟨u, rfl, ua, ub, R, O⟩
    replace B0 := keepO O ((heap_old _ _ (blk_lt B0)).trans B0) (by omega)
    replace B1 := keepO O ((heap_old _ _ (blk_lt B1)).trans B1) (by omega)
    have B2 := keepO O (heap_new _ _) (by omega)
    replace P := (P.alloc _).trans O
    have z_w4 := P.size
    have y_w4_B0 := blk_lt B0
    have y_w4_B1 := blk_lt B1
    have y_w4_B2 := blk_lt B2
    clear O
    obtain ⟨a0, a1, af0, af1⟩ := blk2 B0
    obtain ⟨b0, b1, bf0, bf1⟩ := blk2 B1
    obtain ⟨c0, c1, cf0, cf1⟩ := blk2 B2
    have hc : u = 0 ∨ u = 1 := by omega
    rcases hc with hc | hc
    · subst hc
      go_wp2_with fail
      exact bodyPost_ret (v := .agg #[.int .i64 x, .int .i64 (-1)]) (by simp [results, Tryd.results51, go_sem, a0, a1]) rfl ⟨x, (-1), k + 1 + 1 + 1 + 1, rfl, by unfold PB; omega, by omega, ((R.set (by show r < w2.heap.size; omega) _).set hlt _).set hlt _, ((P.set (.inr (by show w.heap.size ≤ w2.heap.size; omega)) _).set (.inr (Nat.le_refl _)) _).set (.inr (Nat.le_refl _)) _⟩
    · subst hc
      go_wp2_with fail
      exact bodyPost_ret (v := .agg #[.int .i64 x, .int .i64 10]) (by simp [results, Tryd.results51, go_sem, a0, a1]) rfl ⟨x, 10, k + 1 + 1 + 1 + 1, rfl, by unfold PB; omega, by omega, ((R.set (by show r < w2.heap.size; omega) _).set hlt _).set hlt _, ((P.set (.inr (by show w.heap.size ≤ w2.heap.size; omega)) _).set (.inr (Nat.le_refl _)) _).set (.inr (Nat.le_refl _)) _⟩
  · obtain ⟨a0, a1, af0, af1⟩ := blk2 B0
    obtain ⟨b0, b1, bf0, bf1⟩ := blk2 B1
    go_wp2_with fail
    exact bodyPost_ret (v := .agg #[.int .i64 x, .int .i64 y]) (by simp [results, Tryd.results51, go_sem, a0, a1]) rfl ⟨x, y, k + 1 + 1 + 1, rfl, by unfold PB; omega, by omega, (R.set hlt _).set hlt _, (P.set (.inr (Nat.le_refl _)) _).set (.inr (Nat.le_refl _)) _⟩
end Go.Proofs.YtfdnadiliedikaaDoor
