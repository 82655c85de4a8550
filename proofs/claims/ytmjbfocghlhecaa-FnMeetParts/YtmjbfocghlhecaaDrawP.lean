/-
  OUR OWN TEXT. The specification's draws of points and segments, by contract: whatever bytes came in, numbers come out, and nothing that was there is written.
-/
import Derived.Test.YtmjbfocghlhecaaDrawTwo
namespace Go.Proofs.Ytmjbfocghlhecaa
open Go.RowKit

set_option maxHeartbeats 2000000 in
theorem drawPt_any {a : Option Addr} {len0 cap : Nat} {zs : List Int} (w0 w : World) (h : IsRow .u8 w0 a len0 cap zs) (hb : Below w0.heap.size w0 w) :
    Calls Try.prog 16 #[.slice a len0 cap] w fun e w' => ∃ x y : Int, e = .returned (.agg #[.int .i64 x, .int .i64 y]) ∧ Below w.heap.size w w' := by
  go_enter Try.func16, Try.ntmps16
  go_wp2_with fail
  refine (open_rd w0 _ h (bw_alloc hb _)).mono ?_
  rintro e w1 ⟨len, rfl, R, hb1⟩
  have B0 := keep hb1 (heap_new _ _)
  have H := bw_trans (bw_alloc (bw_refl w) _) hb1
  simp only [size_new] at R
  have P := Only.refl (w.heap.size + 1) w1
  have z_w1 := H.size
  have zr := R.lt
  clear hb1
  go_wp2_with fail
  refine (l71Pt_any (0) a len cap _ _ (by omega) R).mono ?_
  clear R
  rintro e w2 ⟨x, y, k1, rfl, pP, hk1, R, O⟩
  replace B0 := keepO O B0 (by omega)
  replace P := P.trans O
  have z_w2 := P.size
  have y_w2_B0 := blk_lt B0
  clear O
  go_wp2_with fail
  refine (pick_rd 4 (k1) a len cap _ _ (by omega) (by omega) (R.alloc _)).mono ?_
  clear R
  rintro e w3 ⟨v, rfl, va, vb, R, O⟩
  replace B0 := keepO O ((heap_old _ _ (blk_lt B0)).trans B0) (by omega)
  have B1 := keepO O (heap_new _ _) (by omega)
  replace P := (P.alloc _).trans O
  have z_w3 := P.size
  have y_w3_B0 := blk_lt B0
  have y_w3_B1 := blk_lt B1
  clear O
  have n01 : w.heap.size ≠ w2.heap.size := by omega
  by_cases hv : v = 0
  · subst hv
    go_wp2_with fail
    refine (pick_rd 14 (k1 + 1) a len cap _ _ (by omega) (by omega) R).mono ?_
    clear R
    rintro e w4 ⟨u, rfl, ua, ub, R, O⟩
    replace B0 := keepO O B0 (by omega)
    replace B1 := keepO O B1 (by omega)
    replace P := P.trans O
    have z_w4 := P.size
    have y_w4_B0 := blk_lt B0
    have y_w4_B1 := blk_lt B1
    clear O
    obtain ⟨a0, a1, af0, af1⟩ := blk2 B0
    obtain ⟨b0, b1, bf0, bf1⟩ := blk2 B1
    have BB := H.trans (P.below' (B := w.heap.size) (by omega) (by omega))
    clear R P H
    go_wp2_with fail
    exact bodyPost_ret (v := .agg #[.int .i64 (u-2), .int .i64 y]) (by simp [results, Try.results16, go_sem, a0, a1]) rfl ⟨u - 2, y, rfl, (by repeat (first | with_reducible exact BB | with_reducible refine Below.drew ?_ | with_reducible refine Below.setCell ?_ (by first | exact Nat.le_refl _ | (dsimp only; omega)) _))⟩
  · have hv' : (v == 0) = false := by simpa using hv
    obtain ⟨a0, a1, af0, af1⟩ := blk2 B0
    obtain ⟨b0, b1, bf0, bf1⟩ := blk2 B1
    have BB := H.trans (P.below' (B := w.heap.size) (by omega) (by omega))
    clear R P H
    go_wp2_with fail
    exact bodyPost_ret (v := .agg #[.int .i64 x, .int .i64 y]) (by simp [results, Try.results16, go_sem, a0, a1]) rfl ⟨x, y, rfl, (by repeat (first | with_reducible exact BB | with_reducible refine Below.drew ?_ | with_reducible refine Below.setCell ?_ (by first | exact Nat.le_refl _ | (dsimp only; omega)) _))⟩
set_option maxHeartbeats 2000000 in
theorem drawSeg_any {a : Option Addr} {len0 cap : Nat} {zs : List Int} (w0 w : World) (h : IsRow .u8 w0 a len0 cap zs) (hb : Below w0.heap.size w0 w) :
    Calls Try.prog 21 #[.slice a len0 cap] w fun e w' => ∃ ax ay bx b_y : Int, e = .returned (.agg #[.int .i64 ax, .int .i64 ay, .int .i64 bx, .int .i64 b_y]) ∧ Below w.heap.size w w' := by
  go_enter Try.func21, Try.ntmps21
  go_wp2_with fail
  refine (open_rd w0 _ h (bw_alloc hb _)).mono ?_
  rintro e w1 ⟨len, rfl, R, hb1⟩
  have B0 := keep hb1 (heap_new _ _)
  have H := bw_trans (bw_alloc (bw_refl w) _) hb1
  simp only [size_new] at R
  have P := Only.refl (w.heap.size + 1) w1
  have z_w1 := H.size
  have zr := R.lt
  clear hb1
  go_wp2_with fail
  refine (l71Seg_any (0) a len cap _ _ (by omega) R).mono ?_
  clear R
  rintro e w2 ⟨ax, ay, bx, b_y, k1, rfl, pA, pB, hk1, R, O⟩
  replace B0 := keepO O B0 (by omega)
  replace P := P.trans O
  have z_w2 := P.size
  have y_w2_B0 := blk_lt B0
  clear O
  obtain ⟨a0, a1, a2, a3, af0, af1, af2, af3⟩ := blk4 B0
  have BB := H.trans (P.below' (B := w.heap.size) (by omega) (by omega))
  clear R P H
  go_wp2_with fail
  exact bodyPost_ret (v := .agg #[.int .i64 ax, .int .i64 ay, .int .i64 bx, .int .i64 b_y]) (by simp [results, Try.results21, go_sem, a0, a1, a2, a3]) rfl ⟨ax, ay, bx, b_y, rfl, (by repeat (first | with_reducible exact BB | with_reducible refine Below.drew ?_ | with_reducible refine Below.setCell ?_ (by first | exact Nat.le_refl _ | (dsimp only; omega)) _))⟩
set_option maxHeartbeats 2000000 in
theorem drawHas_any {a : Option Addr} {len0 cap : Nat} {zs : List Int} (w0 w : World) (h : IsRow .u8 w0 a len0 cap zs) (hb : Below w0.heap.size w0 w) :
    Calls Try.prog 28 #[.slice a len0 cap] w fun e w' => ∃ ax ay bx b_y px py : Int, e = .returned (.tuple #[.agg #[.int .i64 ax, .int .i64 ay, .int .i64 bx, .int .i64 b_y], .agg #[.int .i64 px, .int .i64 py]]) ∧ Below w.heap.size w w' := by
  go_enter Try.func28, Try.ntmps28
  go_wp2_with fail
  refine (open_rd w0 _ h (bw_alloc (bw_alloc hb _) _)).mono ?_
  rintro e w1 ⟨len, rfl, R, hb1⟩
  have B0 := keep hb1 ((heap_old _ _ (by simp)).trans (heap_new _ _))
  have B1 := keep hb1 (heap_new1 _ _ _)
  have H := bw_trans (bw_alloc (bw_alloc (bw_refl w) _) _) hb1
  simp only [size_new] at R
  have P := Only.refl (w.heap.size + 1 + 1) w1
  have z_w1 := H.size
  have zr := R.lt
  clear hb1
  go_wp2_with fail
  refine (l71On_any (0) a len cap _ _ (by omega) R).mono ?_
  clear R
  rintro e w2 ⟨ax, ay, bx, b_y, px, py, k1, rfl, pA, pB, pP, hk1, R, O⟩
  replace B0 := keepO O B0 (by omega)
  replace B1 := keepO O B1 (by omega)
  replace P := P.trans O
  have z_w2 := P.size
  have y_w2_B0 := blk_lt B0
  have y_w2_B1 := blk_lt B1
  clear O
  obtain ⟨a0, a1, a2, a3, af0, af1, af2, af3⟩ := blk4 B0
  obtain ⟨b0, b1, bf0, bf1⟩ := blk2 B1
  have BB := H.trans (P.below' (B := w.heap.size) (by omega) (by omega))
  clear R P H
  go_wp2_with fail
  exact bodyPost_ret (v := .tuple #[.agg #[.int .i64 ax, .int .i64 ay, .int .i64 bx, .int .i64 b_y], .agg #[.int .i64 px, .int .i64 py]]) (by simp [results, Try.results28, go_sem, a0, a1, a2, a3, b0, b1]) rfl ⟨ax, ay, bx, b_y, px, py, rfl, (by repeat (first | with_reducible exact BB | with_reducible refine Below.drew ?_ | with_reducible refine Below.setCell ?_ (by first | exact Nat.le_refl _ | (dsimp only; omega)) _))⟩
set_option maxHeartbeats 2000000 in
theorem drawMeet_any {a : Option Addr} {len0 cap : Nat} {zs : List Int} (w0 w : World) (h : IsRow .u8 w0 a len0 cap zs) (hb : Below w0.heap.size w0 w) :
    Calls Try.prog 31 #[.slice a len0 cap] w fun e w' => ∃ ax ay bx b_y cx cy ex ey : Int, e = .returned (.tuple #[.agg #[.int .i64 ax, .int .i64 ay, .int .i64 bx, .int .i64 b_y], .agg #[.int .i64 cx, .int .i64 cy, .int .i64 ex, .int .i64 ey]]) ∧ Below w.heap.size w w' := by
  go_enter Try.func31, Try.ntmps31
  go_wp2_with fail
  refine (open_rd w0 _ h (bw_alloc (bw_alloc hb _) _)).mono ?_
  rintro e w1 ⟨len, rfl, R, hb1⟩
  have B0 := keep hb1 ((heap_old _ _ (by simp)).trans (heap_new _ _))
  have B1 := keep hb1 (heap_new1 _ _ _)
  have H := bw_trans (bw_alloc (bw_alloc (bw_refl w) _) _) hb1
  simp only [size_new] at R
  have P := Only.refl (w.heap.size + 1 + 1) w1
  have z_w1 := H.size
  have zr := R.lt
  clear hb1
  go_wp2_with fail
  refine (l71Two_any (0) a len cap _ _ (by omega) R).mono ?_
  clear R
  rintro e w2 ⟨ax, ay, bx, b_y, cx, cy, ex, ey, k1, rfl, hk1, R, O⟩
  replace B0 := keepO O B0 (by omega)
  replace B1 := keepO O B1 (by omega)
  replace P := P.trans O
  have z_w2 := P.size
  have y_w2_B0 := blk_lt B0
  have y_w2_B1 := blk_lt B1
  clear O
  obtain ⟨a0, a1, a2, a3, af0, af1, af2, af3⟩ := blk4 B0
  obtain ⟨b0, b1, b2, b3, bf0, bf1, bf2, bf3⟩ := blk4 B1
  have BB := H.trans (P.below' (B := w.heap.size) (by omega) (by omega))
  clear R P H
  go_wp2_with fail
  exact bodyPost_ret (v := .tuple #[.agg #[.int .i64 ax, .int .i64 ay, .int .i64 bx, .int .i64 b_y], .agg #[.int .i64 cx, .int .i64 cy, .int .i64 ex, .int .i64 ey]]) (by simp [results, Try.results31, go_sem, a0, a1, a2, a3, b0, b1, b2, b3]) rfl ⟨ax, ay, bx, b_y, cx, cy, ex, ey, rfl, (by repeat (first | with_reducible exact BB | with_reducible refine Below.drew ?_ | with_reducible refine Below.setCell ?_ (by first | exact Nat.le_refl _ | (dsimp only; omega)) _))⟩
end Go.Proofs.Ytmjbfocghlhecaa
