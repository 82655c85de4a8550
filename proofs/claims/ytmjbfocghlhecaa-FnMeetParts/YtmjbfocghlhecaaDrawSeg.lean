/-
  OUR OWN TEXT. The specification's drawn segments, by contract: whatever the bytes are, what is drawn lies within small bounds; nothing that was there is written.
-/
import Derived.Test.YtmjbfocghlhecaaDrawPt
namespace Go.Proofs.Ytmjbfocghlhecaa
open Go.RowKit

set_option maxHeartbeats 1000000 in
theorem l71Seg_any (k : Nat) (a : Option Addr) (len cap r : Nat) (w : World) (hk : k ≤ 800000) (R : Rd w r k a len cap) :
    Calls Try.prog 41 #[.pointer (some ⟨r, 0, none⟩)] w fun e w' => ∃ (ax ay bx b_y : Int) (k' : Nat), e = .returned (.agg #[.int .i64 ax, .int .i64 ay, .int .i64 bx, .int .i64 b_y]) ∧ PB ax ay ∧ PB bx b_y ∧ k' ≤ k + 9 ∧ Rd w' r k' a len cap ∧ Only r w w' := by
  have hlt := R.lt
  have P := (Only.refl r w).alloc (.cells #[.int .i64 0, .int .i64 0, .int .i64 0, .int .i64 0] 30)
  have B0 := heap_new w (.cells #[.int .i64 0, .int .i64 0, .int .i64 0, .int .i64 0] 30)
  replace R := R.alloc (.cells #[.int .i64 0, .int .i64 0, .int .i64 0, .int .i64 0] 30)
  go_enter Try.func41, Try.ntmps41
  go_wp2_with fail
  refine (l71Pt_any (k) a len cap r _ (by omega) R).mono ?_
  clear R
  rintro e w1 ⟨x1, y1, k1, rfl, p1, hk1, R, O⟩
  replace B0 := keepO O B0 (by omega)
  replace P := P.trans O
  have z_w1 := P.size
  have y_w1_B0 := blk_lt B0
  clear O
  go_wp2_with fail
  refine (l71Pt_any (k1) a len cap r _ (by omega) R).mono ?_
  clear R
  rintro e w2 ⟨x2, y2, k2, rfl, p2, hk2, R, O⟩
  replace B0 := keepO O B0 (by omega)
  replace P := P.trans O
  have z_w2 := P.size
  have y_w2_B0 := blk_lt B0
  clear O
  go_wp2_with fail
  refine (pick_rd 4 (k2) a len cap r _ (by omega) (by omega) (R.alloc _)).mono ?_
  clear R
  rintro e w3 ⟨v, rfl, va, vb, R, O⟩
  replace B0 := keepO O ((heap_old _ _ (blk_lt B0)).trans B0) (by omega)
  have B1 := keepO O (heap_new _ _) (by omega)
  replace P := (P.alloc _).trans O
  have z_w3 := P.size
  have y_w3_B0 := blk_lt B0
  have y_w3_B1 := blk_lt B1
  clear O
  have hne : w.heap.size ≠ w2.heap.size := by omega
  obtain ⟨a0, a1, a2, a3, af0, af1, af2, af3⟩ := blk4 B0
  obtain ⟨b0, b1, b2, b3, bf0, bf1, bf2, bf3⟩ := blk4 B1
  unfold PB at p1 p2
  by_cases hv : v = 0
  · subst hv
    go_wp2_with fail
    exact bodyPost_ret (v := .agg #[.int .i64 x1, .int .i64 y1, .int .i64 x2, .int .i64 y1]) (by simp [results, Try.results41, go_sem, a0, a1, a2, a3]) rfl ⟨x1, y1, x2, y1, k2 + 1, rfl, by unfold PB; omega, by unfold PB; omega, by omega, (by repeat (first | with_reducible exact R | with_reducible refine Rd.drew ?_ | with_reducible refine Rd.set ?_ (by first | exact hlt | (dsimp only; omega)) _)), (by repeat (first | with_reducible exact P | with_reducible refine Only.drew ?_ | with_reducible refine Only.set ?_ (.inr (by first | exact Nat.le_refl _ | (dsimp only; omega))) _))⟩
  · have hv' : (v == 0) = false := by simpa using hv
    go_wp2_with fail
    exact bodyPost_ret (v := .agg #[.int .i64 x1, .int .i64 y1, .int .i64 x2, .int .i64 y2]) (by simp [results, Try.results41, go_sem, a0, a1, a2, a3]) rfl ⟨x1, y1, x2, y2, k2 + 1, rfl, by unfold PB; omega, by unfold PB; omega, by omega, (by repeat (first | with_reducible exact R | with_reducible refine Rd.drew ?_ | with_reducible refine Rd.set ?_ (by first | exact hlt | (dsimp only; omega)) _)), (by repeat (first | with_reducible exact P | with_reducible refine Only.drew ?_ | with_reducible refine Only.set ?_ (.inr (by first | exact Nat.le_refl _ | (dsimp only; omega))) _))⟩
end Go.Proofs.Ytmjbfocghlhecaa
