/-
  OUR OWN TEXT. The specification's two drawn segments, by contract: whatever the bytes are, what is drawn lies within small bounds; nothing that was there is written.
-/
import Derived.Test.YtmjbfocghlhecaaDrawOn
namespace Go.Proofs.Ytmjbfocghlhecaa
open Go.RowKit

set_option maxHeartbeats 4000000 in
theorem l71Two_any (k : Nat) (a : Option Addr) (len cap r : Nat) (w : World) (hk : k ≤ 600000) (R : Rd w r k a len cap) :
    Calls Try.prog 49 #[.pointer (some ⟨r, 0, none⟩)] w fun e w' => ∃ (ax ay bx b_y cx cy ex ey : Int) (k' : Nat), e = .returned (.tuple #[.agg #[.int .i64 ax, .int .i64 ay, .int .i64 bx, .int .i64 b_y], .agg #[.int .i64 cx, .int .i64 cy, .int .i64 ex, .int .i64 ey]]) ∧ k' ≤ k + 50 ∧ Rd w' r k' a len cap ∧ Only r w w' := by
  have hlt := R.lt
  have P := ((Only.refl r w).alloc (.cells #[.int .i64 0, .int .i64 0, .int .i64 0, .int .i64 0] 30)).alloc (.cells #[.int .i64 0, .int .i64 0, .int .i64 0, .int .i64 0] 30)
  have B0 := (heap_old (w.alloc (.cells #[.int .i64 0, .int .i64 0, .int .i64 0, .int .i64 0] 30)) (.cells #[.int .i64 0, .int .i64 0, .int .i64 0, .int .i64 0] 30) (by simp)).trans (heap_new w (.cells #[.int .i64 0, .int .i64 0, .int .i64 0, .int .i64 0] 30))
  have B1 := heap_new1 w (.cells #[.int .i64 0, .int .i64 0, .int .i64 0, .int .i64 0] 30) (.cells #[.int .i64 0, .int .i64 0, .int .i64 0, .int .i64 0] 30)
  replace R := (R.alloc (.cells #[.int .i64 0, .int .i64 0, .int .i64 0, .int .i64 0] 30)).alloc (.cells #[.int .i64 0, .int .i64 0, .int .i64 0, .int .i64 0] 30)
  go_enter Try.func49, Try.ntmps49
  go_wp2_with fail
  refine (l71On_any (k) a len cap r _ (by omega) R).mono ?_
  clear R
  rintro e w1 ⟨ax, ay, bx, b_y, px, py, k1, rfl, pA, pB, pP, hk1, R, O⟩
  replace B0 := keepO O B0 (by omega)
  replace B1 := keepO O B1 (by omega)
  replace P := P.trans O
  have z_w1 := P.size
  have y_w1_B0 := blk_lt B0
  have y_w1_B1 := blk_lt B1
  clear O
  go_wp2_with fail
  refine (l71Seg_any (k1) a len cap r _ (by omega) ((R.alloc _).alloc _)).mono ?_
  clear R
  rintro e w2 ⟨cx, cy, ex, ey, k2, rfl, pC, pE, hk2, R, O⟩
  replace B0 := keepO O ((heap_old _ _ (by rw [size_new]; have := blk_lt B0; omega)).trans ((heap_old _ _ (blk_lt B0)).trans B0)) (by omega)
  replace B1 := keepO O ((heap_old _ _ (by rw [size_new]; have := blk_lt B1; omega)).trans ((heap_old _ _ (blk_lt B1)).trans B1)) (by omega)
  have B2 := keepO O ((heap_old _ _ (by rw [size_new]; omega)).trans (heap_new _ _)) (by omega)
  have B3 := keepO O (heap_new1 _ _ _) (by omega)
  replace P := ((P.alloc _).alloc _).trans O
  have z_w2 := P.size
  have y_w2_B0 := blk_lt B0
  have y_w2_B1 := blk_lt B1
  have y_w2_B2 := blk_lt B2
  have y_w2_B3 := blk_lt B3
  clear O
  go_wp2_with fail
  refine (pick_rd 5 (k2) a len cap r _ (by omega) (by omega) (R.alloc _)).mono ?_
  clear R
  rintro e w3 ⟨v, rfl, va, vb, R, O⟩
  replace B0 := keepO O ((heap_old _ _ (blk_lt B0)).trans B0) (by omega)
  replace B1 := keepO O ((heap_old _ _ (blk_lt B1)).trans B1) (by omega)
  replace B2 := keepO O ((heap_old _ _ (blk_lt B2)).trans B2) (by omega)
  replace B3 := keepO O ((heap_old _ _ (blk_lt B3)).trans B3) (by omega)
  have B4 := keepO O (heap_new _ _) (by omega)
  replace P := (P.alloc _).trans O
  have z_w3 := P.size
  have y_w3_B0 := blk_lt B0
  have y_w3_B1 := blk_lt B1
  have y_w3_B2 := blk_lt B2
  have y_w3_B3 := blk_lt B3
  have y_w3_B4 := blk_lt B4
  clear O
  have d02 : w.heap.size ≠ w1.heap.size ∧ w.heap.size + 1 ≠ w1.heap.size ∧ w.heap.size ≠ w2.heap.size ∧ w.heap.size + 1 ≠ w2.heap.size ∧ w1.heap.size ≠ w2.heap.size ∧ w1.heap.size + 1 ≠ w2.heap.size := by omega
  obtain ⟨n02, n12, n04, n14, n24, n34⟩ := d02
  clear pA pB pP pC pE
  obtain ⟨a0, a1, a2, a3, af0, af1, af2, af3⟩ := blk4 B0
  obtain ⟨b0, b1, b2, b3, bf0, bf1, bf2, bf3⟩ := blk4 B1
  obtain ⟨c0, c1, c2, c3, cf0, cf1, cf2, cf3⟩ := blk4 B2
  obtain ⟨d0, d1, df0, df1⟩ := blk2 B3
  obtain ⟨t0, t1, t2, t3, tf0, tf1, tf2, tf3⟩ := blk4 B4
  clear B0 B1 B2 B3 B4
  by_cases hv : v < 3
  · go_wp2_with fail
    go_region
    all_goals go_wp2
    all_goals exact bodyPost_ret (v := .tuple #[.agg #[.int .i64 ax, .int .i64 ay, .int .i64 bx, .int .i64 b_y], .agg #[.int .i64 px, .int .i64 py, .int .i64 ex, .int .i64 ey]]) (by simp [results, Try.results49, go_sem, a0, a1, a2, a3, b0, b1, b2, b3]) rfl ⟨ax, ay, bx, b_y, px, py, ex, ey, k2 + 1, rfl, by omega, (by repeat (first | with_reducible exact R | with_reducible refine Rd.drew ?_ | with_reducible refine Rd.set ?_ (by first | exact hlt | (dsimp only; omega)) _)), (by repeat (first | with_reducible exact P | with_reducible refine Only.drew ?_ | with_reducible refine Only.set ?_ (.inr (by first | exact Nat.le_refl _ | (dsimp only; omega))) _))⟩
  · go_wp2_with fail
    go_region
    all_goals go_wp2
    all_goals exact bodyPost_ret (v := .tuple #[.agg #[.int .i64 ax, .int .i64 ay, .int .i64 bx, .int .i64 b_y], .agg #[.int .i64 cx, .int .i64 cy, .int .i64 ex, .int .i64 ey]]) (by simp [results, Try.results49, go_sem, a0, a1, a2, a3, b0, b1, b2, b3]) rfl ⟨ax, ay, bx, b_y, cx, cy, ex, ey, k2 + 1, rfl, by omega, (by repeat (first | with_reducible exact R | with_reducible refine Rd.drew ?_ | with_reducible refine Rd.set ?_ (by first | exact hlt | (dsimp only; omega)) _)), (by repeat (first | with_reducible exact P | with_reducible refine Only.drew ?_ | with_reducible refine Only.set ?_ (.inr (by first | exact Nat.le_refl _ | (dsimp only; omega))) _))⟩
end Go.Proofs.Ytmjbfocghlhecaa
