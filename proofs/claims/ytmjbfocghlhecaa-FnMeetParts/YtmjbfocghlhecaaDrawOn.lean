/-
  OUR OWN TEXT. The specification's drawn segment with a point, by contract: whatever the bytes are, what is drawn lies within small bounds; nothing that was there is written.
-/
import Derived.Test.YtmjbfocghlhecaaDrawSeg
import Derived.Deep.RegionHeld3
namespace Go.Proofs.Ytmjbfocghlhecaa
open Go.RowKit

set_option maxHeartbeats 4000000 in
theorem l71On_any (k : Nat) (a : Option Addr) (len cap r : Nat) (w : World) (hk : k ≤ 700000) (R : Rd w r k a len cap) :
    Calls Try.prog 46 #[.pointer (some ⟨r, 0, none⟩)] w fun e w' => ∃ (ax ay bx b_y px py : Int) (k' : Nat), e = .returned (.tuple #[.agg #[.int .i64 ax, .int .i64 ay, .int .i64 bx, .int .i64 b_y], .agg #[.int .i64 px, .int .i64 py]]) ∧ PB ax ay ∧ PB bx b_y ∧ PB px py ∧ k' ≤ k + 30 ∧ Rd w' r k' a len cap ∧ Only r w w' := by
  have hlt := R.lt
  have P := ((Only.refl r w).alloc (.cells #[.int .i64 0, .int .i64 0, .int .i64 0, .int .i64 0] 30)).alloc (.cells #[.int .i64 0, .int .i64 0] 24)
  have B0 := (heap_old (w.alloc (.cells #[.int .i64 0, .int .i64 0, .int .i64 0, .int .i64 0] 30)) (.cells #[.int .i64 0, .int .i64 0] 24) (by simp)).trans (heap_new w (.cells #[.int .i64 0, .int .i64 0, .int .i64 0, .int .i64 0] 30))
  have B1 := heap_new1 w (.cells #[.int .i64 0, .int .i64 0, .int .i64 0, .int .i64 0] 30) (.cells #[.int .i64 0, .int .i64 0] 24)
  replace R := (R.alloc (.cells #[.int .i64 0, .int .i64 0, .int .i64 0, .int .i64 0] 30)).alloc (.cells #[.int .i64 0, .int .i64 0] 24)
  go_enter Try.func46, Try.ntmps46
  go_wp2_with fail
  refine (l71Seg_any (k) a len cap r _ (by omega) R).mono ?_
  clear R
  rintro e w1 ⟨ax, ay, bx, b_y, k1, rfl, pA, pB, hk1, R, O⟩
  replace B0 := keepO O B0 (by omega)
  replace B1 := keepO O B1 (by omega)
  replace P := P.trans O
  have z_w1 := P.size
  have y_w1_B0 := blk_lt B0
  have y_w1_B1 := blk_lt B1
  clear O
  go_wp2_with fail
  refine (l71Pt_any (k1) a len cap r _ (by omega) (R.alloc _)).mono ?_
  clear R
  rintro e w2 ⟨px, py, k2, rfl, pP, hk2, R, O⟩
  replace B0 := keepO O ((heap_old _ _ (blk_lt B0)).trans B0) (by omega)
  replace B1 := keepO O ((heap_old _ _ (blk_lt B1)).trans B1) (by omega)
  have B2 := keepO O (heap_new _ _) (by omega)
  replace P := (P.alloc _).trans O
  have z_w2 := P.size
  have y_w2_B0 := blk_lt B0
  have y_w2_B1 := blk_lt B1
  have y_w2_B2 := blk_lt B2
  clear O
  go_wp2_with fail
  refine (pick_rd 3 (k2) a len cap r _ (by omega) (by omega) (R.alloc _)).mono ?_
  clear R
  rintro e w3 ⟨v, rfl, va, vb, R, O⟩
  replace B0 := keepO O ((heap_old _ _ (blk_lt B0)).trans B0) (by omega)
  replace B1 := keepO O ((heap_old _ _ (blk_lt B1)).trans B1) (by omega)
  replace B2 := keepO O ((heap_old _ _ (blk_lt B2)).trans B2) (by omega)
  have B3 := keepO O (heap_new _ _) (by omega)
  replace P := (P.alloc _).trans O
  have z_w3 := P.size
  have y_w3_B0 := blk_lt B0
  have y_w3_B1 := blk_lt B1
  have y_w3_B2 := blk_lt B2
  have y_w3_B3 := blk_lt B3
  clear O
  unfold PB at pA pB pP
  have d02 : w.heap.size ≠ w1.heap.size ∧ w.heap.size + 1 ≠ w1.heap.size ∧ w.heap.size ≠ w2.heap.size ∧ w.heap.size + 1 ≠ w2.heap.size ∧ w1.heap.size ≠ w2.heap.size := by omega
  obtain ⟨n02, n12, n03, n13, n23⟩ := d02
  by_cases hv : v = 0
  · subst hv
    obtain ⟨a0, a1, a2, a3, af0, af1, af2, af3⟩ := blk4 B0
    obtain ⟨b0, b1, bf0, bf1⟩ := blk2 B1
    obtain ⟨c0, c1, c2, c3, cf0, cf1, cf2, cf3⟩ := blk4 B2
    obtain ⟨d0, d1, df0, df1⟩ := blk2 B3
    clear B0 B1 B2 B3
    go_wp2_with fail
    go_region
    all_goals go_wp2
    all_goals exact bodyPost_ret (v := .tuple #[.agg #[.int .i64 ax, .int .i64 ay, .int .i64 bx, .int .i64 b_y], .agg #[.int .i64 px, .int .i64 py]]) (by simp [results, Try.results46, go_sem, a0, a1, a2, a3, b0, b1]) rfl ⟨ax, ay, bx, b_y, px, py, k2 + 1, rfl, by unfold PB; omega, by unfold PB; omega, by unfold PB; omega, by omega, (by repeat (first | with_reducible exact R | with_reducible refine Rd.drew ?_ | with_reducible refine Rd.set ?_ (by first | exact hlt | (dsimp only; omega)) _)), (by repeat (first | with_reducible exact P | with_reducible refine Only.drew ?_ | with_reducible refine Only.set ?_ (.inr (by first | exact Nat.le_refl _ | (dsimp only; omega))) _))⟩
  · have hv' : 0 < v := by omega
    go_wp2_with fail
    refine (pick_rd 5 (k2 + 1) a len cap r _ (by omega) (by omega) R).mono ?_
    clear R
    rintro e w4 ⟨qx, rfl, qxa, qxb, R, O⟩
    replace B0 := keepO O B0 (by omega)
    replace B1 := keepO O B1 (by omega)
    replace B2 := keepO O B2 (by omega)
    replace B3 := keepO O B3 (by omega)
    replace P := P.trans O
    have z_w4 := P.size
    have y_w4_B0 := blk_lt B0
    have y_w4_B1 := blk_lt B1
    have y_w4_B2 := blk_lt B2
    have y_w4_B3 := blk_lt B3
    clear O
    go_wp2_with fail
    refine (pick_rd 5 (k2 + 1 + 1) a len cap r _ (by omega) (by omega) R).mono ?_
    clear R
    rintro e w5 ⟨qy, rfl, qya, qyb, R, O⟩
    replace B0 := keepO O B0 (by omega)
    replace B1 := keepO O B1 (by omega)
    replace B2 := keepO O B2 (by omega)
    replace B3 := keepO O B3 (by omega)
    replace P := P.trans O
    have z_w5 := P.size
    have y_w5_B0 := blk_lt B0
    have y_w5_B1 := blk_lt B1
    have y_w5_B2 := blk_lt B2
    have y_w5_B3 := blk_lt B3
    clear O
    obtain ⟨c0, c1, c2, c3, cf0, cf1, cf2, cf3⟩ := blk4 B2
    go_wp2_with fail
    refine (pick_rd 3 (k2 + 1 + 1 + 1) a len cap r _ (by omega) (by omega) (by repeat (first | with_reducible exact R | with_reducible refine Rd.drew ?_ | with_reducible refine Rd.set ?_ (by first | exact hlt | (dsimp only; omega)) _))).mono ?_
    clear R
    rintro e w6 ⟨dx, rfl, dxa, dxb, R, O⟩
    replace B0 := keepO O (set_oth (set_oth B0 (by omega)) (by omega)) (by omega)
    replace B1 := keepO O (set_oth (set_oth B1 (by omega)) (by omega)) (by omega)
    replace B2 := keepO O (setB4_01 B2) (by omega)
    replace B3 := keepO O (set_oth (set_oth B3 (by omega)) (by omega)) (by omega)
    replace P := Only.trans (a := w) (by repeat (first | with_reducible exact P | with_reducible refine Only.drew ?_ | with_reducible refine Only.set ?_ (.inr (by first | exact Nat.le_refl _ | (dsimp only; omega))) _)) O
    have z_w6 := P.size
    have y_w6_B0 := blk_lt B0
    have y_w6_B1 := blk_lt B1
    have y_w6_B2 := blk_lt B2
    have y_w6_B3 := blk_lt B3
    clear O
    clear c0 c1 c2 c3 cf0 cf1 cf2 cf3
    go_wp2_with fail
    refine (pick_rd 3 (k2 + 1 + 1 + 1 + 1) a len cap r _ (by omega) (by omega) R).mono ?_
    clear R
    rintro e w7 ⟨dy, rfl, dya, dyb, R, O⟩
    replace B0 := keepO O B0 (by omega)
    replace B1 := keepO O B1 (by omega)
    replace B2 := keepO O B2 (by omega)
    replace B3 := keepO O B3 (by omega)
    replace P := P.trans O
    have z_w7 := P.size
    have y_w7_B0 := blk_lt B0
    have y_w7_B1 := blk_lt B1
    have y_w7_B2 := blk_lt B2
    have y_w7_B3 := blk_lt B3
    clear O
    go_wp2_with fail
    refine (pick_rd 2 (k2 + 1 + 1 + 1 + 1 + 1) a len cap r _ (by omega) (by omega) (R.alloc _)).mono ?_
    clear R
    rintro e w8 ⟨m, rfl, ma, mb, R, O⟩
    replace B0 := keepO O ((heap_old _ _ (blk_lt B0)).trans B0) (by omega)
    replace B1 := keepO O ((heap_old _ _ (blk_lt B1)).trans B1) (by omega)
    replace B2 := keepO O ((heap_old _ _ (blk_lt B2)).trans B2) (by omega)
    replace B3 := keepO O ((heap_old _ _ (blk_lt B3)).trans B3) (by omega)
    have B4 := keepO O (heap_new _ _) (by omega)
    replace P := (P.alloc _).trans O
    have z_w8 := P.size
    have y_w8_B0 := blk_lt B0
    have y_w8_B1 := blk_lt B1
    have y_w8_B2 := blk_lt B2
    have y_w8_B3 := blk_lt B3
    have y_w8_B4 := blk_lt B4
    clear O
    have d04 : w.heap.size ≠ w7.heap.size ∧ w.heap.size + 1 ≠ w7.heap.size ∧ w1.heap.size ≠ w7.heap.size ∧ w2.heap.size ≠ w7.heap.size := by omega
    obtain ⟨n04, n14, n24, n34⟩ := d04
    have mx := mul_small dxa (by omega) (show 0 ≤ 1 + m by omega) (by omega)
    have my := mul_small dya (by omega) (show 0 ≤ 1 + m by omega) (by omega)
    go_upto_region 7 with fail
    obtain ⟨c0, c1, c2, c3, cf0, cf1, cf2, cf3⟩ := blk4 B2
    obtain ⟨d0, d1, df0, df1⟩ := blk2 B3
    obtain ⟨e0, e1, ef0, ef1⟩ := blk2 B4
    have hS0 : w8.cell? ⟨w1.heap.size, 0, none⟩ = some (.int .i64 qx) ∧ w8.cell? ⟨w1.heap.size, 1, none⟩ = some (.int .i64 qy) ∧ w8.cell? ⟨w7.heap.size, 0, none⟩ = some (.int .i64 dx) ∧ w8.cell? ⟨w7.heap.size, 1, none⟩ = some (.int .i64 dy) := ⟨c0, c1, e0, e1⟩
    clear c0 c1 c2 c3 cf0 cf1 cf2 cf3 d0 d1 df0 df1 e0 e1 ef0 ef1
    replace P := P.drew
    have R0 := R.drew
    clear R
    have hw := wrap_small (1 + m + 1) (by omega) (by omega)
    go_region_held3 (fun w' => w'.cell? ⟨w1.heap.size, 0, none⟩ = some (.int .i64 qx) ∧ w'.cell? ⟨w1.heap.size, 1, none⟩ = some (.int .i64 qy) ∧ w'.cell? ⟨w7.heap.size, 0, none⟩ = some (.int .i64 dx) ∧ w'.cell? ⟨w7.heap.size, 1, none⟩ = some (.int .i64 dy)) (first | exact cells4O O (by assumption) (by omega) (by omega) | exact hS0 | exact cells4S (by assumption) (by omega) (by omega)) (first | (go_at_call 38; refine (pick_rd _ _ a len cap r _ ?_ ?_ R0).mono ?_; omega; omega; rintro e w9 ⟨u, rfl, ua, ub, R1, O⟩; clear R0; have mXu := mul_small dxa (by omega) ua (by omega); have mYu := mul_small dya (by omega) ua (by omega); have wXu := wrap_small (dx * u) (by omega) (by omega); have wYu := wrap_small (dy * u) (by omega) (by omega); have vXu := wrap_small (qx + dx * u) (by omega) (by omega); have vYu := wrap_small (qy + dy * u) (by omega) (by omega); replace B0 := keepO O B0 (by omega); replace B1 := keepO O B1 (by omega); replace B2 := keepO O B2 (by omega); replace B3 := keepO O B3 (by omega); replace B4 := keepO O B4 (by omega); obtain ⟨d0, d1, df0, df1⟩ := blk2 B3; replace P := P.trans O) | (go_at_call 38; refine (pick_rd _ _ a len cap r _ ?_ ?_ R1).mono ?_; omega; omega; rintro e w10 ⟨u2, rfl, u2a, u2b, R, O⟩; clear R1; have mXu2 := mul_small dxa (by omega) u2a (by omega); have mYu2 := mul_small dya (by omega) u2a (by omega); have wXu2 := wrap_small (dx * u2) (by omega) (by omega); have wYu2 := wrap_small (dy * u2) (by omega) (by omega); have vXu2 := wrap_small (qx + dx * u2) (by omega) (by omega); have vYu2 := wrap_small (qy + dy * u2) (by omega) (by omega); replace B0 := keepO O B0 (by omega); replace B1 := keepO O B1 (by omega); replace B2 := keepO O B2 (by omega); replace B3 := keepO O B3 (by omega); replace B4 := keepO O B4 (by omega); obtain ⟨d0, d1, df0, df1⟩ := blk2 B3; replace P := P.trans O))
    clear hS0 d0 d1 df0 df1
    have z_w10 := P.size
    have hq := blk_lt B4
    obtain ⟨c0, c1, c2, c3, cf0, cf1, cf2, cf3⟩ := blk4 B2
    obtain ⟨e0, e1, ef0, ef1⟩ := blk2 B4
    go_wp2_with fail
    refine (pick_rd 2 (k2 + 1 + 1 + 1 + 1 + 1 + 1 + 1 + 1) a len cap r _ (by omega) (by omega) (by repeat (first | with_reducible exact R | with_reducible refine Rd.drew ?_ | with_reducible refine Rd.set ?_ (by first | exact hlt | (dsimp only; omega)) _))).mono ?_
    clear R
    rintro e w11 ⟨j, rfl, ja, jb, R, O⟩
    replace B0 := keepO O (set_oth (set_oth (set_oth (set_oth B0 (by omega)) (by omega)) (by omega)) (by omega)) (by omega)
    replace B1 := keepO O (set_oth (set_oth (set_oth (set_oth B1 (by omega)) (by omega)) (by omega)) (by omega)) (by omega)
    replace B2 := keepO O (setB4_23 (set_oth (set_oth B2 (by omega)) (by omega))) (by omega)
    replace B3 := keepO O (set_oth (set_oth (setB2 B3) (by omega)) (by omega)) (by omega)
    replace P := Only.trans (a := w) (by repeat (first | with_reducible exact P | with_reducible refine Only.drew ?_ | with_reducible refine Only.set ?_ (.inr (by first | exact Nat.le_refl _ | (dsimp only; omega))) _)) O
    have z_w11 := P.size
    have y_w11_B0 := blk_lt B0
    have y_w11_B1 := blk_lt B1
    have y_w11_B2 := blk_lt B2
    have y_w11_B3 := blk_lt B3
    clear O
    clear c0 c1 c2 c3 cf0 cf1 cf2 cf3 e0 e1 ef0 ef1 B4
    by_cases hj : j = 0
    · subst hj
      obtain ⟨a0, a1, a2, a3, af0, af1, af2, af3⟩ := blk4 B0
      obtain ⟨b0, b1, bf0, bf1⟩ := blk2 B1
      obtain ⟨c0, c1, c2, c3, cf0, cf1, cf2, cf3⟩ := blk4 B2
      obtain ⟨d0, d1, df0, df1⟩ := blk2 B3
      clear B0 B1 B2 B3
      go_wp2_with fail
      go_region
      all_goals go_wp2
      all_goals exact bodyPost_ret (v := .tuple #[.agg #[.int .i64 (qx+dx*(1+m)), .int .i64 (qy+dy*(1+m)), .int .i64 qx, .int .i64 qy], .agg #[.int .i64 (qx+dx*u), .int .i64 (qy+dy*u2)]]) (by simp [results, Try.results46, go_sem, a0, a1, a2, a3, b0, b1]) rfl ⟨(qx+dx*(1+m)), (qy+dy*(1+m)), qx, qy, (qx+dx*u), (qy+dy*u2), k2 + 1 + 1 + 1 + 1 + 1 + 1 + 1 + 1 + 1, rfl, by unfold PB; omega, by unfold PB; omega, by unfold PB; omega, by omega, (by repeat (first | with_reducible exact R | with_reducible refine Rd.drew ?_ | with_reducible refine Rd.set ?_ (by first | exact hlt | (dsimp only; omega)) _)), (by repeat (first | with_reducible exact P | with_reducible refine Only.drew ?_ | with_reducible refine Only.set ?_ (.inr (by first | exact Nat.le_refl _ | (dsimp only; omega))) _))⟩
    · have hj' : (j == 0) = false := by simpa using hj
      obtain ⟨a0, a1, a2, a3, af0, af1, af2, af3⟩ := blk4 B0
      obtain ⟨b0, b1, bf0, bf1⟩ := blk2 B1
      obtain ⟨c0, c1, c2, c3, cf0, cf1, cf2, cf3⟩ := blk4 B2
      obtain ⟨d0, d1, df0, df1⟩ := blk2 B3
      clear B0 B1 B2 B3
      go_wp2_with fail
      go_region
      all_goals go_wp2
      all_goals exact bodyPost_ret (v := .tuple #[.agg #[.int .i64 qx, .int .i64 qy, .int .i64 (qx+dx*(1+m)), .int .i64 (qy+dy*(1+m))], .agg #[.int .i64 (qx+dx*u), .int .i64 (qy+dy*u2)]]) (by simp [results, Try.results46, go_sem, a0, a1, a2, a3, b0, b1]) rfl ⟨qx, qy, (qx+dx*(1+m)), (qy+dy*(1+m)), (qx+dx*u), (qy+dy*u2), k2 + 1 + 1 + 1 + 1 + 1 + 1 + 1 + 1 + 1, rfl, by unfold PB; omega, by unfold PB; omega, by unfold PB; omega, by omega, (by repeat (first | with_reducible exact R | with_reducible refine Rd.drew ?_ | with_reducible refine Rd.set ?_ (by first | exact hlt | (dsimp only; omega)) _)), (by repeat (first | with_reducible exact P | with_reducible refine Only.drew ?_ | with_reducible refine Only.set ?_ (.inr (by first | exact Nat.le_refl _ | (dsimp only; omega))) _))⟩

end Go.Proofs.Ytmjbfocghlhecaa
