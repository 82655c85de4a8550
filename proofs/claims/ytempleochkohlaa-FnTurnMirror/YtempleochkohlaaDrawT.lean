/-
  OUR OWN TEXT. The specification's draw of three points, by contract: whatever bytes came in, numbers come out, and nothing that was there is written.
-/
import Derived.Test.YtempleochkohlaaDrawPt
import Derived.Test.YtempleochkohlaaBoxes
import Derived.Test.YtempleochkohlaaRoundQ
import Derived.Deep.RegionHeld3
import Derived.BigRegion
namespace Go.Proofs.Ytempleochkohlaa
open Go.RowKit Go.Sort

theorem cells4D {b c p i j k l m n : Nat} {W : World} {x y z u v0 v1 : Value} (h : W.drew.cell? ⟨b, i, none⟩ = some x ∧ W.drew.cell? ⟨b, j, none⟩ = some y ∧ W.drew.cell? ⟨c, k, none⟩ = some z ∧ W.drew.cell? ⟨c, l, none⟩ = some u) (hb : b ≠ p) (hc : c ≠ p) :
    ((W.setCell ⟨p, m, none⟩ v0).setCell ⟨p, n, none⟩ v1).drew.cell? ⟨b, i, none⟩ = some x ∧ ((W.setCell ⟨p, m, none⟩ v0).setCell ⟨p, n, none⟩ v1).drew.cell? ⟨b, j, none⟩ = some y ∧ ((W.setCell ⟨p, m, none⟩ v0).setCell ⟨p, n, none⟩ v1).drew.cell? ⟨c, k, none⟩ = some z ∧ ((W.setCell ⟨p, m, none⟩ v0).setCell ⟨p, n, none⟩ v1).drew.cell? ⟨c, l, none⟩ = some u :=
  cells4S (W := W) h hb hc
set_option maxHeartbeats 2000000 in
theorem drawTurn_any {a : Option Addr} {len0 cap : Nat} {zs : List Int} (w0 w : World) (h : IsRow .u8 w0 a len0 cap zs) (hb : Below w0.heap.size w0 w) :
    Calls Try.prog 13 #[.slice a len0 cap] w fun e w' => ∃ ax ay bx b_y cx cy : Int, e = .returned (.tuple #[.agg #[.int .i64 ax, .int .i64 ay], .agg #[.int .i64 bx, .int .i64 b_y], .agg #[.int .i64 cx, .int .i64 cy]]) ∧ (PB ax ay ∧ PB bx b_y ∧ PB cx cy) ∧ Below w.heap.size w w' := by
  go_enter Try.func13, Try.ntmps13
  go_wp2_with fail
  refine (open_rd w0 _ h (bw_alloc (bw_alloc (bw_alloc hb _) _) _)).mono ?_
  rintro e w1 ⟨len, rfl, R, hb1⟩
  have B0 := keep hb1 ((heap_old _ _ (by simp only [size_new]; omega)).trans ((heap_old _ _ (by simp)).trans (heap_new _ _)))
  have B1 := keep hb1 ((heap_old _ _ (by simp only [size_new]; omega)).trans (heap_new1 _ _ _))
  have B2 := keep hb1 (heap_new2 _ _ _ _)
  have H := bw_trans (bw_alloc (bw_alloc (bw_alloc (bw_refl w) _) _) _) hb1
  simp only [size_new] at R
  have P := Only.refl (w.heap.size + 1 + 1 + 1) w1
  have z_w1 := H.size
  have zr := R.lt
  clear hb1
  go_wp2_with fail
  refine (l71Pt_any (0) a len cap _ _ (by omega) R).mono ?_
  clear R
  rintro e w2 ⟨x1, y1, k1, rfl, p1, hk1, R, O⟩
  replace B0 := keepO O B0 (by omega)
  replace B1 := keepO O B1 (by omega)
  replace B2 := keepO O B2 (by omega)
  replace P := P.trans O
  have z_w2 := P.size
  have y_w2_B0 := blk_lt B0
  have y_w2_B1 := blk_lt B1
  have y_w2_B2 := blk_lt B2
  clear O
  go_wp2_with fail
  refine (l71Pt_any (k1) a len cap _ _ (by omega) (R.alloc _)).mono ?_
  clear R
  rintro e w3 ⟨x2, y2, k2, rfl, p2, hk2, R, O⟩
  replace B0 := keepO O ((heap_old _ _ (blk_lt B0)).trans B0) (by omega)
  replace B1 := keepO O ((heap_old _ _ (blk_lt B1)).trans B1) (by omega)
  replace B2 := keepO O ((heap_old _ _ (blk_lt B2)).trans B2) (by omega)
  have B3 := keepO O (heap_new _ _) (by omega)
  replace P := (P.alloc _).trans O
  have z_w3 := P.size
  have y_w3_B0 := blk_lt B0
  have y_w3_B1 := blk_lt B1
  have y_w3_B2 := blk_lt B2
  have y_w3_B3 := blk_lt B3
  clear O
  go_wp2_with fail
  refine (pick_rd 4 (k2) a len cap _ _ (by omega) (by omega) (R.alloc _)).mono ?_
  clear R
  rintro e w4 ⟨v, rfl, va, vb, R, O⟩
  replace B0 := keepO O ((heap_old _ _ (blk_lt B0)).trans B0) (by omega)
  replace B1 := keepO O ((heap_old _ _ (blk_lt B1)).trans B1) (by omega)
  replace B2 := keepO O ((heap_old _ _ (blk_lt B2)).trans B2) (by omega)
  replace B3 := keepO O ((heap_old _ _ (blk_lt B3)).trans B3) (by omega)
  have B4 := keepO O (heap_new _ _) (by omega)
  replace P := (P.alloc _).trans O
  have z_w4 := P.size
  have y_w4_B0 := blk_lt B0
  have y_w4_B1 := blk_lt B1
  have y_w4_B2 := blk_lt B2
  have y_w4_B3 := blk_lt B3
  have y_w4_B4 := blk_lt B4
  clear O
  unfold PB at p1 p2
  have dd : w.heap.size ≠ w2.heap.size ∧ w.heap.size ≠ w3.heap.size ∧ w.heap.size + 1 ≠ w2.heap.size ∧ w.heap.size + 1 ≠ w3.heap.size ∧ w.heap.size + 2 ≠ w2.heap.size ∧ w.heap.size + 2 ≠ w3.heap.size ∧ w2.heap.size ≠ w3.heap.size := by omega
  obtain ⟨e1, e2, e3, e4, e5, e6, e7⟩ := dd
  by_cases hv : v = 0
  · subst hv
    obtain ⟨a0, a1, af0, af1⟩ := blk2 B0
    obtain ⟨b0, b1, bf0, bf1⟩ := blk2 B1
    obtain ⟨g0, g1, gf0, gf1⟩ := blk2 B2
    obtain ⟨c0, c1, cf0, cf1⟩ := blk2 B3
    obtain ⟨d0, d1, df0, df1⟩ := blk2 B4
    have BB := H.trans (P.below' (B := w.heap.size) (by omega) (by omega))
    clear R P H B0 B1 B2 B3 B4
    have hS0 : w4.cell? ⟨w2.heap.size, 0, none⟩ = some (.int .i64 x1) ∧ w4.cell? ⟨w2.heap.size, 1, none⟩ = some (.int .i64 y1) ∧ w4.cell? ⟨w3.heap.size, 0, none⟩ = some (.int .i64 x2) ∧ w4.cell? ⟨w3.heap.size, 1, none⟩ = some (.int .i64 y2) := ⟨c0, c1, d0, d1⟩
    have hmx : Try.prog.follows .mixedOrders = true := by kernel_rfl
    have u1 : IntKind.i64.wrap (2 * x2) = 2 * x2 := wrap_small (by omega) (by omega)
    have u2 : IntKind.i64.wrap (2 * x2 - x1) = 2 * x2 - x1 := wrap_small (by omega) (by omega)
    have u3 : IntKind.i64.wrap (2 * y2) = 2 * y2 := wrap_small (by omega) (by omega)
    have u4 : IntKind.i64.wrap (2 * y2 - y1) = 2 * y2 - y1 := wrap_small (by omega) (by omega)
    obtain ⟨X2, HX2⟩ : ∃ q : Int, Hid ((if 2 * x2 - x1 < 0 then 0 else 2 * x2 - x1) = q) := ⟨_, rfl⟩
    obtain ⟨X3, HX3⟩ : ∃ q : Int, Hid ((if 9 < X2 then 9 else X2) = q) := ⟨_, rfl⟩
    obtain ⟨Y2, HY2⟩ : ∃ q : Int, Hid ((if 2 * y2 - y1 < 0 then 0 else 2 * y2 - y1) = q) := ⟨_, rfl⟩
    obtain ⟨Y3, HY3⟩ : ∃ q : Int, Hid ((if 9 < Y2 then 9 else Y2) = q) := ⟨_, rfl⟩
    have bX : -2 ≤ X3 ∧ X3 ≤ 11 := by have h1 := HX2.out; have h2 := HX3.out; split at h1 <;> split at h2 <;> omega
    have bY : -2 ≤ Y3 ∧ Y3 ≤ 11 := by have h1 := HY2.out; have h2 := HY3.out; split at h1 <;> split at h2 <;> omega
    go_upto_region 5 with fail
    refine wp_region_held (S := (fun w' : World => w'.cell? ⟨w2.heap.size, 0, none⟩ = some (.int .i64 x1) ∧ w'.cell? ⟨w2.heap.size, 1, none⟩ = some (.int .i64 y1) ∧ w'.cell? ⟨w3.heap.size, 0, none⟩ = some (.int .i64 x2) ∧ w'.cell? ⟨w3.heap.size, 1, none⟩ = some (.int .i64 y2))) hmx ?_
    have hS1 : (fun w' : World => w'.cell? ⟨w2.heap.size, 0, none⟩ = some (.int .i64 x1) ∧ w'.cell? ⟨w2.heap.size, 1, none⟩ = some (.int .i64 y1) ∧ w'.cell? ⟨w3.heap.size, 0, none⟩ = some (.int .i64 x2) ∧ w'.cell? ⟨w3.heap.size, 1, none⟩ = some (.int .i64 y2)) w4.drew := hS0
    refine wpAnyH_take (i := 0) (v := .agg #[.int .i64 x1, .int .i64 y1]) rfl (by kernel_rfl) (by kernel_rfl) (by kernel_rfl) (fun _ _ _ h => h) (Or.inl ⟨by rfl, by rintro w' ⟨s1, s2, s3, s4⟩; go_simp⟩) hS1 ?_
    refine wpAnyH_take (i := 1) (v := .agg #[.int .i64 x2, .int .i64 y2]) rfl (by kernel_rfl) (by kernel_rfl) (by kernel_rfl) (fun _ _ _ h => h) (Or.inl ⟨by rfl, by rintro w' ⟨s1, s2, s3, s4⟩; go_simp⟩) hS1 ?_
    refine wpAnyH_take (i := 2) (v := .pointer (some ⟨w3.heap.size, 0, none⟩)) rfl (by kernel_rfl) (by kernel_rfl) (by kernel_rfl) (fun _ _ _ h => h) (Or.inl ⟨by rfl, by rintro w' ⟨s1, s2, s3, s4⟩; go_simp⟩) hS1 ?_
    refine wpAnyH_take (i := 3) (v := .int .i64 x2) rfl (by kernel_rfl) (by kernel_rfl) (by kernel_rfl) (fun _ _ _ h => h) (Or.inl ⟨by rfl, by rintro w' ⟨s1, s2, s3, s4⟩; go_simp⟩) hS1 ?_
    refine wpAnyH_take (i := 4) (v := .int .i64 (2 * x2)) rfl (by kernel_rfl) (by kernel_rfl) (by kernel_rfl) (fun _ _ _ h => h) (Or.inl ⟨by rfl, by rintro w' ⟨s1, s2, s3, s4⟩; go_simp⟩) hS1 ?_
    refine wpAnyH_take (i := 5) (v := .pointer (some ⟨w2.heap.size, 0, none⟩)) rfl (by kernel_rfl) (by kernel_rfl) (by kernel_rfl) (fun _ _ _ h => h) (Or.inl ⟨by rfl, by rintro w' ⟨s1, s2, s3, s4⟩; go_simp⟩) hS1 ?_
    refine wpAnyH_take (i := 6) (v := .int .i64 x1) rfl (by kernel_rfl) (by kernel_rfl) (by kernel_rfl) (fun _ _ _ h => h) (Or.inl ⟨by rfl, by rintro w' ⟨s1, s2, s3, s4⟩; go_simp⟩) hS1 ?_
    refine wpAnyH_take (i := 7) (v := .int .i64 (2 * x2 - x1)) rfl (by kernel_rfl) (by kernel_rfl) (by kernel_rfl) (fun _ _ _ h => h) (Or.inl ⟨by rfl, by rintro w' ⟨s1, s2, s3, s4⟩; go_simp⟩) hS1 ?_
    refine wpAnyH_take (i := 8) (v := .int .i64 X2) rfl (by kernel_rfl) (by kernel_rfl) (by kernel_rfl) (fun _ _ _ h => h) (Or.inl ⟨by rfl, by rintro w' ⟨s1, s2, s3, s4⟩; rw [← HX2.out]; go_simp⟩) hS1 ?_
    refine wpAnyH_take (i := 9) (v := .int .i64 X3) rfl (by kernel_rfl) (by kernel_rfl) (by kernel_rfl) (fun _ _ _ h => h) (Or.inl ⟨by rfl, by rintro w' ⟨s1, s2, s3, s4⟩; rw [← HX3.out]; go_simp⟩) hS1 ?_
    refine wpAnyH_take (i := 10) (v := .pointer (some ⟨w3.heap.size, 1, none⟩)) rfl (by kernel_rfl) (by kernel_rfl) (by kernel_rfl) (fun _ _ _ h => h) (Or.inl ⟨by rfl, by rintro w' ⟨s1, s2, s3, s4⟩; go_simp⟩) hS1 ?_
    refine wpAnyH_take (i := 11) (v := .int .i64 y2) rfl (by kernel_rfl) (by kernel_rfl) (by kernel_rfl) (fun _ _ _ h => h) (Or.inl ⟨by rfl, by rintro w' ⟨s1, s2, s3, s4⟩; go_simp⟩) hS1 ?_
    refine wpAnyH_take (i := 12) (v := .int .i64 (2 * y2)) rfl (by kernel_rfl) (by kernel_rfl) (by kernel_rfl) (fun _ _ _ h => h) (Or.inl ⟨by rfl, by rintro w' ⟨s1, s2, s3, s4⟩; go_simp⟩) hS1 ?_
    refine wpAnyH_take (i := 13) (v := .pointer (some ⟨w2.heap.size, 1, none⟩)) rfl (by kernel_rfl) (by kernel_rfl) (by kernel_rfl) (fun _ _ _ h => h) (Or.inl ⟨by rfl, by rintro w' ⟨s1, s2, s3, s4⟩; go_simp⟩) hS1 ?_
    refine wpAnyH_take (i := 14) (v := .int .i64 y1) rfl (by kernel_rfl) (by kernel_rfl) (by kernel_rfl) (fun _ _ _ h => h) (Or.inl ⟨by rfl, by rintro w' ⟨s1, s2, s3, s4⟩; go_simp⟩) hS1 ?_
    refine wpAnyH_take (i := 15) (v := .int .i64 (2 * y2 - y1)) rfl (by kernel_rfl) (by kernel_rfl) (by kernel_rfl) (fun _ _ _ h => h) (Or.inl ⟨by rfl, by rintro w' ⟨s1, s2, s3, s4⟩; go_simp⟩) hS1 ?_
    refine wpAnyH_take (i := 16) (v := .int .i64 Y2) rfl (by kernel_rfl) (by kernel_rfl) (by kernel_rfl) (fun _ _ _ h => h) (Or.inl ⟨by rfl, by rintro w' ⟨s1, s2, s3, s4⟩; rw [← HY2.out]; go_simp⟩) hS1 ?_
    refine wpAnyH_take (i := 17) (v := .int .i64 Y3) rfl (by kernel_rfl) (by kernel_rfl) (by kernel_rfl) (fun _ _ _ h => h) (Or.inl ⟨by rfl, by rintro w' ⟨s1, s2, s3, s4⟩; rw [← HY3.out]; go_simp⟩) hS1 ?_
    refine wpAnyH_take (i := 18) (v := .agg #[.int .i64 X3, .int .i64 Y3]) rfl (by kernel_rfl) (by kernel_rfl) (by kernel_rfl) (fun _ _ _ h => h) (Or.inl ⟨by rfl, by rintro w' ⟨s1, s2, s3, s4⟩; go_simp⟩) hS1 ?_
    refine wpAnyH_all (rs := [19]) (by kernel_rfl) (by simp) ?_
    intro i hi
    obtain rfl : i = 19 := by simpa using hi
    refine wpOp_now rfl (by rfl) ?_
    go_simp
    refine wpAnyH_all (rs := [20]) (by kernel_rfl) (by simp) ?_
    intro i hi
    obtain rfl : i = 20 := by simpa using hi
    refine wpOp_now rfl (by rfl) ?_
    go_simp
    refine wpAnyH_all (rs := [21]) (by kernel_rfl) (by simp) ?_
    intro i hi
    obtain rfl : i = 21 := by simpa using hi
    refine wpOp_now rfl (by rfl) ?_
    go_simp
    refine wpAnyH_done (by kernel_rfl) ?_ _
    try simp only [Exit.then]
    go_wp2
    exact bodyPost_ret (v := .tuple #[.agg #[.int .i64 x1, .int .i64 y1], .agg #[.int .i64 x2, .int .i64 y2], .agg #[.int .i64 X3, .int .i64 Y3]]) (by simp [results, Try.results13, go_sem, a0, a1, b0, b1, g0, g1]) rfl ⟨x1, y1, x2, y2, X3, Y3, rfl, ⟨by unfold PB; omega, by unfold PB; omega, by unfold PB; omega⟩, (by repeat (first | with_reducible exact BB | with_reducible refine Below.drew ?_ | with_reducible refine Below.setCell ?_ (by first | exact Nat.le_refl _ | (dsimp only; omega)) _))⟩
  · have hv' : (v == 0) = false := by simpa using hv
    go_upto_region 6 with fail
    obtain ⟨c0, c1, cf0, cf1⟩ := blk2 B3
    obtain ⟨d0, d1, df0, df1⟩ := blk2 B4
    obtain ⟨i0, i1, if0, if1⟩ := blk2 B0
    obtain ⟨j0, j1, jf0, jf1⟩ := blk2 B1
    obtain ⟨l0, l1, lf0, lf1⟩ := blk2 B2
    have R4 := R.drew
    have P4 := P.drew
    clear R P
    go_region_with (go_at_call 44; refine (l71Pt_any (k2 + 1) a len cap _ _ ?_ ?_).mono ?_; omega; exact R4; rintro e w5 ⟨x3, y3, k3, rfl, p3, hk3, R5, O⟩; obtain ⟨a0, a1, af0, af1⟩ := blk2 (keepO O (show w4.drew.heap[w.heap.size]? = _ from B0) (by omega)); obtain ⟨b0, b1, bf0, bf1⟩ := blk2 (keepO O (show w4.drew.heap[w.heap.size + 1]? = _ from B1) (by omega)); obtain ⟨g0, g1, gf0, gf1⟩ := blk2 (keepO O (show w4.drew.heap[w.heap.size + 2]? = _ from B2) (by omega)); obtain ⟨m0, m1, mf0, mf1⟩ := blk2 (keepO O (show w4.drew.heap[w2.heap.size]? = _ from B3) (by omega)); obtain ⟨n0, n1, nf0, nf1⟩ := blk2 (keepO O (show w4.drew.heap[w3.heap.size]? = _ from B4) (by omega)); have P := P4.trans O)
    all_goals have BB := H.trans (P.below' (B := w.heap.size) (by omega) (by omega))
    all_goals clear P H
    all_goals go_wp2
    all_goals unfold PB at p3
    all_goals exact bodyPost_ret (v := .tuple #[.agg #[.int .i64 x1, .int .i64 y1], .agg #[.int .i64 x2, .int .i64 y2], .agg #[.int .i64 x3, .int .i64 y3]]) (by simp [results, Try.results13, go_sem, a0, a1, b0, b1, g0, g1]) rfl ⟨x1, y1, x2, y2, x3, y3, rfl, ⟨by unfold PB; omega, by unfold PB; omega, by unfold PB; omega⟩, (by repeat (first | with_reducible exact BB | with_reducible refine Below.drew ?_ | with_reducible refine Below.setCell ?_ (by first | exact Nat.le_refl _ | (dsimp only; omega)) _))⟩
end Go.Proofs.Ytempleochkohlaa
