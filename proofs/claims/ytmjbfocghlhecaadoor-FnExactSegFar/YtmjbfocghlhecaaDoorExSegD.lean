/-
  OUR OWN TEXT. The exact laws of SegFar and SegApart, walked: called at any argument, in any world that holds the sentinel, each answers true and writes nothing that was there.
-/
import Derived.Test.YtmjbfocghlhecaaDoorSApart
import Derived.Test.YtmjbfocghlhecaaDoorToPt
import Derived.Test.YtmjbfocghlhecaaDoorLuD
namespace Go.Proofs.YtmjbfocghlhecaaDoor
open Go.RowKit Go.Sort

theorem cB6 {W w : World} {a0 a1 a2 a3 a4 a5 : Addr} {v0 v1 v2 v3 v4 v5 : Value} (J : Below W.heap.size W w) (h : W.cell? a0 = some v0 ∧ W.cell? a1 = some v1 ∧ W.cell? a2 = some v2 ∧ W.cell? a3 = some v3 ∧ W.cell? a4 = some v4 ∧ W.cell? a5 = some v5) : w.cell? a0 = some v0 ∧ w.cell? a1 = some v1 ∧ w.cell? a2 = some v2 ∧ w.cell? a3 = some v3 ∧ w.cell? a4 = some v4 ∧ w.cell? a5 = some v5 :=
  ⟨cellB J h.1, cellB J h.2.1, cellB J h.2.2.1, cellB J h.2.2.2.1, cellB J h.2.2.2.2.1, cellB J h.2.2.2.2.2⟩
theorem cA6 {W : World} {o : Obj} {a0 a1 a2 a3 a4 a5 : Addr} {v0 v1 v2 v3 v4 v5 : Value} (h : W.cell? a0 = some v0 ∧ W.cell? a1 = some v1 ∧ W.cell? a2 = some v2 ∧ W.cell? a3 = some v3 ∧ W.cell? a4 = some v4 ∧ W.cell? a5 = some v5) : (W.alloc o).cell? a0 = some v0 ∧ (W.alloc o).cell? a1 = some v1 ∧ (W.alloc o).cell? a2 = some v2 ∧ (W.alloc o).cell? a3 = some v3 ∧ (W.alloc o).cell? a4 = some v4 ∧ (W.alloc o).cell? a5 = some v5 := cB6 (bw_alloc (bw_refl _) _) h
theorem cS6 {W : World} {p m n : Nat} {x y : Value} {a0 a1 a2 a3 a4 a5 : Addr} {v0 v1 v2 v3 v4 v5 : Value} (h : W.cell? a0 = some v0 ∧ W.cell? a1 = some v1 ∧ W.cell? a2 = some v2 ∧ W.cell? a3 = some v3 ∧ W.cell? a4 = some v4 ∧ W.cell? a5 = some v5) (n0 : a0.block ≠ p) (n1 : a1.block ≠ p) (n2 : a2.block ≠ p) (n3 : a3.block ≠ p) (n4 : a4.block ≠ p) (n5 : a5.block ≠ p) : ((W.setCell ⟨p, m, none⟩ x).setCell ⟨p, n, none⟩ y).cell? a0 = some v0 ∧ ((W.setCell ⟨p, m, none⟩ x).setCell ⟨p, n, none⟩ y).cell? a1 = some v1 ∧ ((W.setCell ⟨p, m, none⟩ x).setCell ⟨p, n, none⟩ y).cell? a2 = some v2 ∧ ((W.setCell ⟨p, m, none⟩ x).setCell ⟨p, n, none⟩ y).cell? a3 = some v3 ∧ ((W.setCell ⟨p, m, none⟩ x).setCell ⟨p, n, none⟩ y).cell? a4 = some v4 ∧ ((W.setCell ⟨p, m, none⟩ x).setCell ⟨p, n, none⟩ y).cell? a5 = some v5 :=
  ⟨cellS2 h.1 n0, cellS2 h.2.1 n1, cellS2 h.2.2.1 n2, cellS2 h.2.2.2.1 n3, cellS2 h.2.2.2.2.1 n4, cellS2 h.2.2.2.2.2 n5⟩
theorem cT6 {W : World} {p m n k l : Nat} {x y z u : Value} {a0 a1 a2 a3 a4 a5 : Addr} {v0 v1 v2 v3 v4 v5 : Value} (h : W.cell? a0 = some v0 ∧ W.cell? a1 = some v1 ∧ W.cell? a2 = some v2 ∧ W.cell? a3 = some v3 ∧ W.cell? a4 = some v4 ∧ W.cell? a5 = some v5) (n0 : a0.block ≠ p) (n1 : a1.block ≠ p) (n2 : a2.block ≠ p) (n3 : a3.block ≠ p) (n4 : a4.block ≠ p) (n5 : a5.block ≠ p) : ((((W.setCell ⟨p, m, none⟩ x).setCell ⟨p, n, none⟩ y).setCell ⟨p, k, none⟩ z).setCell ⟨p, l, none⟩ u).cell? a0 = some v0 ∧ ((((W.setCell ⟨p, m, none⟩ x).setCell ⟨p, n, none⟩ y).setCell ⟨p, k, none⟩ z).setCell ⟨p, l, none⟩ u).cell? a1 = some v1 ∧ ((((W.setCell ⟨p, m, none⟩ x).setCell ⟨p, n, none⟩ y).setCell ⟨p, k, none⟩ z).setCell ⟨p, l, none⟩ u).cell? a2 = some v2 ∧ ((((W.setCell ⟨p, m, none⟩ x).setCell ⟨p, n, none⟩ y).setCell ⟨p, k, none⟩ z).setCell ⟨p, l, none⟩ u).cell? a3 = some v3 ∧ ((((W.setCell ⟨p, m, none⟩ x).setCell ⟨p, n, none⟩ y).setCell ⟨p, k, none⟩ z).setCell ⟨p, l, none⟩ u).cell? a4 = some v4 ∧ ((((W.setCell ⟨p, m, none⟩ x).setCell ⟨p, n, none⟩ y).setCell ⟨p, k, none⟩ z).setCell ⟨p, l, none⟩ u).cell? a5 = some v5 := cS6 (cS6 h n0 n1 n2 n3 n4 n5) n0 n1 n2 n3 n4 n5
theorem cellL {W : World} {o o' : Obj} {a : Addr} {v : Value} (h : (W.alloc o).cell? a = some v) (hb : a.block < W.heap.size) : (W.alloc o').cell? a = some v := by
  rw [← h]
  exact World.cell?_of_block (w := W.alloc o) ((heap_old W o' hb).trans (heap_old W o hb).symm)
theorem cL6 {W : World} {o o' : Obj} {a0 a1 a2 a3 a4 a5 : Addr} {v0 v1 v2 v3 v4 v5 : Value} (h : (W.alloc o).cell? a0 = some v0 ∧ (W.alloc o).cell? a1 = some v1 ∧ (W.alloc o).cell? a2 = some v2 ∧ (W.alloc o).cell? a3 = some v3 ∧ (W.alloc o).cell? a4 = some v4 ∧ (W.alloc o).cell? a5 = some v5) (n0 : a0.block < W.heap.size) (n1 : a1.block < W.heap.size) (n2 : a2.block < W.heap.size) (n3 : a3.block < W.heap.size) (n4 : a4.block < W.heap.size) (n5 : a5.block < W.heap.size) : (W.alloc o').cell? a0 = some v0 ∧ (W.alloc o').cell? a1 = some v1 ∧ (W.alloc o').cell? a2 = some v2 ∧ (W.alloc o').cell? a3 = some v3 ∧ (W.alloc o').cell? a4 = some v4 ∧ (W.alloc o').cell? a5 = some v5 :=
  ⟨cellL h.1 n0, cellL h.2.1 n1, cellL h.2.2.1 n2, cellL h.2.2.2.1 n3, cellL h.2.2.2.2.1 n4, cellL h.2.2.2.2.2 n5⟩
theorem cL8 {W : World} {o o' : Obj} {a0 a1 a2 a3 a4 a5 a6 a7 : Addr} {v0 v1 v2 v3 v4 v5 v6 v7 : Value} (h : (W.alloc o).cell? a0 = some v0 ∧ (W.alloc o).cell? a1 = some v1 ∧ (W.alloc o).cell? a2 = some v2 ∧ (W.alloc o).cell? a3 = some v3 ∧ (W.alloc o).cell? a4 = some v4 ∧ (W.alloc o).cell? a5 = some v5 ∧ (W.alloc o).cell? a6 = some v6 ∧ (W.alloc o).cell? a7 = some v7) (n0 : a0.block < W.heap.size) (n1 : a1.block < W.heap.size) (n2 : a2.block < W.heap.size) (n3 : a3.block < W.heap.size) (n4 : a4.block < W.heap.size) (n5 : a5.block < W.heap.size) (n6 : a6.block < W.heap.size) (n7 : a7.block < W.heap.size) : (W.alloc o').cell? a0 = some v0 ∧ (W.alloc o').cell? a1 = some v1 ∧ (W.alloc o').cell? a2 = some v2 ∧ (W.alloc o').cell? a3 = some v3 ∧ (W.alloc o').cell? a4 = some v4 ∧ (W.alloc o').cell? a5 = some v5 ∧ (W.alloc o').cell? a6 = some v6 ∧ (W.alloc o').cell? a7 = some v7 :=
  ⟨cellL h.1 n0, cellL h.2.1 n1, cellL h.2.2.1 n2, cellL h.2.2.2.1 n3, cellL h.2.2.2.2.1 n4, cellL h.2.2.2.2.2.1 n5, cellL h.2.2.2.2.2.2.1 n6, cellL h.2.2.2.2.2.2.2 n7⟩
theorem eqFrac_same (n d : Int) (w : World) :
    Calls Tryd.prog 39 #[.agg #[.int .i64 n, .int .i64 d], .agg #[.int .i64 n, .int .i64 d]] w fun e w' => e = .returned (.bool true) ∧ Below w.heap.size w w' := by
  go_enter Tryd.func39, Tryd.ntmps39
  go_wp2
  go_ret
  exact ⟨rfl, (by repeat (first | exact bw_refl _ | assumption | apply bw_drewN | apply bw_drew | apply bw_alloc | refine bw_set ?_ (by simp) _))⟩
set_option maxHeartbeats 4000000 in
theorem exFar_walk (ax ay bx b_y : Int) (_wax : (Lit.int .i64 ax).wf = true) (_way : (Lit.int .i64 ay).wf = true) (_wbx : (Lit.int .i64 bx).wf = true) (_wb_y : (Lit.int .i64 b_y).wf = true) (px py : Int) (_wpx : (Lit.int .i64 px).wf = true) (_wpy : (Lit.int .i64 py).wf = true) (ad : Addr) (w : World) (h0 : Sent ad w) :
    Calls Tryd.prog 12 #[.agg #[.int .i64 ax, .int .i64 ay, .int .i64 bx, .int .i64 b_y], .agg #[.int .i64 px, .int .i64 py]] w fun e w' => e = .returned (.bool true) ∧ Below w.heap.size w w' := by
  obtain ⟨W, hW, BW, S0, S1⟩ := boxes2 w (.cells #[.int .i64 ax, .int .i64 ay, .int .i64 bx, .int .i64 b_y] 53) (.cells #[.int .i64 px, .int .i64 py] 51)
  have hz := blk_lt S1
  go_enter Tryd.func12, Tryd.ntmps12
  go_upto_region 1 with fail
  rw [← hW]
  clear hW
  go_cut [5] (fun s5 wc => ∃ b, s5 = .pointer (some ⟨b, 0, none⟩) ∧ wc.heap[b]? = some (.cells #[.int .i64 (farV ax ay bx b_y px py).1, .int .i64 (farV ax ay bx b_y px py).2] 34 (0, 0)) ∧ Below W.heap.size W wc)
  case first =>
    have H := bw_drew (bw_refl W)
    have hS0 : (fun w' => w'.cell? ⟨w.heap.size, 0, none⟩ = some (.int .i64 ax) ∧ w'.cell? ⟨w.heap.size, 1, none⟩ = some (.int .i64 ay) ∧ w'.cell? ⟨w.heap.size, 2, none⟩ = some (.int .i64 bx) ∧ w'.cell? ⟨w.heap.size, 3, none⟩ = some (.int .i64 b_y) ∧ w'.cell? ⟨w.heap.size + 1, 0, none⟩ = some (.int .i64 px) ∧ w'.cell? ⟨w.heap.size + 1, 1, none⟩ = some (.int .i64 py)) W := by
      obtain ⟨r00, r01, r02, r03⟩ := blk_4 S0
      obtain ⟨r10, r11⟩ := blk_2 S1
      exact ⟨r00, r01, r02, r03, r10, r11⟩

    go_region_held3 (fun w' => w'.cell? ⟨w.heap.size, 0, none⟩ = some (.int .i64 ax) ∧ w'.cell? ⟨w.heap.size, 1, none⟩ = some (.int .i64 ay) ∧ w'.cell? ⟨w.heap.size, 2, none⟩ = some (.int .i64 bx) ∧ w'.cell? ⟨w.heap.size, 3, none⟩ = some (.int .i64 b_y) ∧ w'.cell? ⟨w.heap.size + 1, 0, none⟩ = some (.int .i64 px) ∧ w'.cell? ⟨w.heap.size + 1, 1, none⟩ = some (.int .i64 py)) (first | with_reducible exact cB6 K (by assumption) | with_reducible exact cA6 (by assumption) | exact hS0 | exact cA6 hS0 | with_reducible exact cL6 (by assumption) (by have := H.size; dsimp only; omega) (by have := H.size; dsimp only; omega) (by have := H.size; dsimp only; omega) (by have := H.size; dsimp only; omega) (by have := H.size; dsimp only; omega) (by have := H.size; dsimp only; omega) | exact cS6 (by assumption) (by dsimp only; omega) (by dsimp only; omega) (by dsimp only; omega) (by dsimp only; omega) (by dsimp only; omega) (by dsimp only; omega)) (first | (go_at_call 37; refine (toSeg_any ax ay bx b_y _).mono ?_; rintro e zz ⟨rfl, K⟩; (first | (replace H := bw_trans H K; first | (replace AB := keep K AB; clear q0 q1 qf0 qf1; obtain ⟨q0, q1, qf0, qf1⟩ := blkF AB) | skip) | (have zb := H.size; have AB := keep K (heap_new _ _); replace H := bw_trans (bw_alloc H _) K; obtain ⟨q0, q1, qf0, qf1⟩ := blkF AB)); skip) | (go_at_call 38; refine (toPt_any px py _).mono ?_; rintro e zz ⟨rfl, K⟩; (first | (replace H := bw_trans H K; first | (replace AB := keep K AB; clear q0 q1 qf0 qf1; obtain ⟨q0, q1, qf0, qf1⟩ := blkF AB) | skip) | (have zb := H.size; have AB := keep K (heap_new _ _); replace H := bw_trans (bw_alloc H _) K; obtain ⟨q0, q1, qf0, qf1⟩ := blkF AB)); skip) | (go_at_call 23; refine (sFar_any ax ay bx b_y px py _).mono ?_; rintro e zz ⟨rfl, K⟩; (first | (replace H := bw_trans H K; first | (replace AB := keep K AB; clear q0 q1 qf0 qf1; obtain ⟨q0, q1, qf0, qf1⟩ := blkF AB) | skip) | (have zb := H.size; have AB := keep K (heap_new _ _); replace H := bw_trans (bw_alloc H _) K; obtain ⟨q0, q1, qf0, qf1⟩ := blkF AB)); skip))
    all_goals go_wp2_with fail
    all_goals go_meet
    all_goals (first | exact ⟨_, rfl, heap_new _ _, bw_alloc H _⟩ | exact ⟨_, rfl, setF2 AB, bw_set (bw_set H (by dsimp only; omega) _) (by dsimp only; omega) _⟩)
  case rest =>
    obtain ⟨b1, rfl, F1, HC⟩ := hcut
    replace S0 := keep HC S0
    replace S1 := keep HC S1
    have BC := bw_trans BW HC
    have zF := blk_lt F1
    clear HC BW
    go_upto_region 2 with fail
    go_cut [6] (fun s6 wd => ∃ b, s6 = .pointer (some ⟨b, 0, none⟩) ∧ wd.heap[b]? = some (.cells #[.int .i64 (farV ax ay bx b_y px py).1, .int .i64 (farV ax ay bx b_y px py).2] 34 (0, 0)) ∧ Below wc.heap.size wc wd)
    case first =>
      have H := bw_drew (bw_refl wc)
      have BW := BC
      have hs : Sent ad wc.drew := h0.below (bw_trans BC H)
      have zW := blk_lt S1
      have hS0 : (fun w' => w'.cell? ⟨w.heap.size, 0, none⟩ = some (.int .i64 ax) ∧ w'.cell? ⟨w.heap.size, 1, none⟩ = some (.int .i64 ay) ∧ w'.cell? ⟨w.heap.size, 2, none⟩ = some (.int .i64 bx) ∧ w'.cell? ⟨w.heap.size, 3, none⟩ = some (.int .i64 b_y) ∧ w'.cell? ⟨w.heap.size + 1, 0, none⟩ = some (.int .i64 px) ∧ w'.cell? ⟨w.heap.size + 1, 1, none⟩ = some (.int .i64 py)) wc := by
        obtain ⟨r00, r01, r02, r03⟩ := blk_4 S0
        obtain ⟨r10, r11⟩ := blk_2 S1
        exact ⟨r00, r01, r02, r03, r10, r11⟩

      go_region_held3 (fun w' => w'.cell? ⟨w.heap.size, 0, none⟩ = some (.int .i64 ax) ∧ w'.cell? ⟨w.heap.size, 1, none⟩ = some (.int .i64 ay) ∧ w'.cell? ⟨w.heap.size, 2, none⟩ = some (.int .i64 bx) ∧ w'.cell? ⟨w.heap.size, 3, none⟩ = some (.int .i64 b_y) ∧ w'.cell? ⟨w.heap.size + 1, 0, none⟩ = some (.int .i64 px) ∧ w'.cell? ⟨w.heap.size + 1, 1, none⟩ = some (.int .i64 py)) (first | with_reducible exact cB6 K (by assumption) | with_reducible exact cA6 (by assumption) | exact hS0 | exact cA6 hS0 | with_reducible exact cL6 (by assumption) (by have := H.size; dsimp only; omega) (by have := H.size; dsimp only; omega) (by have := H.size; dsimp only; omega) (by have := H.size; dsimp only; omega) (by have := H.size; dsimp only; omega) (by have := H.size; dsimp only; omega) | exact cS6 (by assumption) (by dsimp only; omega) (by dsimp only; omega) (by dsimp only; omega) (by dsimp only; omega) (by dsimp only; omega) (by dsimp only; omega)) (first | (go_at_call 37; refine (toSeg_any ax ay bx b_y _).mono ?_; rintro e zz ⟨rfl, K⟩; (first | (replace H := bw_trans H K; first | (replace AB := keep K AB; clear q0 q1 qf0 qf1; obtain ⟨q0, q1, qf0, qf1⟩ := blkF AB) | skip) | (have zb := H.size; have AB := keep K (heap_new _ _); replace H := bw_trans (bw_alloc H _) K; obtain ⟨q0, q1, qf0, qf1⟩ := blkF AB)); skip; replace hs := h0.below (bw_trans BW H)) | (go_at_call 38; refine (toPt_any px py _).mono ?_; rintro e zz ⟨rfl, K⟩; (first | (replace H := bw_trans H K; first | (replace AB := keep K AB; clear q0 q1 qf0 qf1; obtain ⟨q0, q1, qf0, qf1⟩ := blkF AB) | skip) | (have zb := H.size; have AB := keep K (heap_new _ _); replace H := bw_trans (bw_alloc H _) K; obtain ⟨q0, q1, qf0, qf1⟩ := blkF AB)); skip; replace hs := h0.below (bw_trans BW H)) | (go_at_call 20; refine (segFar_any ax ay bx b_y px py ad _ ?_).mono ?_; (first | exact hs | exact hs.below (bw_alloc (bw_refl _) _)); rintro e zz ⟨rfl, K⟩; (first | (replace H := bw_trans H K; first | (replace AB := keep K AB; clear q0 q1 qf0 qf1; obtain ⟨q0, q1, qf0, qf1⟩ := blkF AB) | skip) | (have zb := H.size; have AB := keep K (heap_new _ _); replace H := bw_trans (bw_alloc H _) K; obtain ⟨q0, q1, qf0, qf1⟩ := blkF AB)); skip))
      all_goals go_wp2_with fail
      all_goals go_meet
      all_goals (first | exact ⟨_, rfl, heap_new _ _, bw_alloc H _⟩ | exact ⟨_, rfl, setF2 AB, bw_set (bw_set H (by dsimp only; omega) _) (by dsimp only; omega) _⟩)
    case rest =>
      obtain ⟨b2, rfl, F2, HD⟩ := hcut
      replace F1 := keep HD F1
      have BD := bw_trans BC HD
      obtain ⟨x0, x1⟩ := blk_2 F1
      obtain ⟨y0, y1⟩ := blk_2 F2
      go_wp2_with fail
      refine (eqFrac_same _ _ _).mono ?_
      rintro e w9 ⟨rfl, K9⟩
      go_wp2_with fail
      go_ret
      exact ⟨rfl, bw_trans BD K9⟩
set_option maxHeartbeats 4000000 in
theorem exApart_walk (ax ay bx b_y : Int) (_wax : (Lit.int .i64 ax).wf = true) (_way : (Lit.int .i64 ay).wf = true) (_wbx : (Lit.int .i64 bx).wf = true) (_wb_y : (Lit.int .i64 b_y).wf = true) (cx cy ex ey : Int) (_wcx : (Lit.int .i64 cx).wf = true) (_wcy : (Lit.int .i64 cy).wf = true) (_wex : (Lit.int .i64 ex).wf = true) (_wey : (Lit.int .i64 ey).wf = true) (ad : Addr) (w : World) (h0 : Sent ad w) :
    Calls Tryd.prog 13 #[.agg #[.int .i64 ax, .int .i64 ay, .int .i64 bx, .int .i64 b_y], .agg #[.int .i64 cx, .int .i64 cy, .int .i64 ex, .int .i64 ey]] w fun e w' => e = .returned (.bool true) ∧ Below w.heap.size w w' := by
  obtain ⟨W, hW, BW, S0, S1⟩ := boxes2 w (.cells #[.int .i64 ax, .int .i64 ay, .int .i64 bx, .int .i64 b_y] 53) (.cells #[.int .i64 cx, .int .i64 cy, .int .i64 ex, .int .i64 ey] 53)
  have hz := blk_lt S1
  go_enter Tryd.func13, Tryd.ntmps13
  go_upto_region 1 with fail
  rw [← hW]
  clear hW
  go_cut [5] (fun s5 wc => ∃ b, s5 = .pointer (some ⟨b, 0, none⟩) ∧ wc.heap[b]? = some (.cells #[.int .i64 (apartV ax ay bx b_y cx cy ex ey).1, .int .i64 (apartV ax ay bx b_y cx cy ex ey).2] 34 (0, 0)) ∧ Below W.heap.size W wc)
  case first =>
    have H := bw_drew (bw_refl W)
    have hS0 : (fun w' => w'.cell? ⟨w.heap.size, 0, none⟩ = some (.int .i64 ax) ∧ w'.cell? ⟨w.heap.size, 1, none⟩ = some (.int .i64 ay) ∧ w'.cell? ⟨w.heap.size, 2, none⟩ = some (.int .i64 bx) ∧ w'.cell? ⟨w.heap.size, 3, none⟩ = some (.int .i64 b_y) ∧ w'.cell? ⟨w.heap.size + 1, 0, none⟩ = some (.int .i64 cx) ∧ w'.cell? ⟨w.heap.size + 1, 1, none⟩ = some (.int .i64 cy) ∧ w'.cell? ⟨w.heap.size + 1, 2, none⟩ = some (.int .i64 ex) ∧ w'.cell? ⟨w.heap.size + 1, 3, none⟩ = some (.int .i64 ey)) W := by
      obtain ⟨r00, r01, r02, r03⟩ := blk_4 S0
      obtain ⟨r10, r11, r12, r13⟩ := blk_4 S1
      exact ⟨r00, r01, r02, r03, r10, r11, r12, r13⟩

    go_region_held3 (fun w' => w'.cell? ⟨w.heap.size, 0, none⟩ = some (.int .i64 ax) ∧ w'.cell? ⟨w.heap.size, 1, none⟩ = some (.int .i64 ay) ∧ w'.cell? ⟨w.heap.size, 2, none⟩ = some (.int .i64 bx) ∧ w'.cell? ⟨w.heap.size, 3, none⟩ = some (.int .i64 b_y) ∧ w'.cell? ⟨w.heap.size + 1, 0, none⟩ = some (.int .i64 cx) ∧ w'.cell? ⟨w.heap.size + 1, 1, none⟩ = some (.int .i64 cy) ∧ w'.cell? ⟨w.heap.size + 1, 2, none⟩ = some (.int .i64 ex) ∧ w'.cell? ⟨w.heap.size + 1, 3, none⟩ = some (.int .i64 ey)) (first | with_reducible exact cB8 K (by assumption) | with_reducible exact cA8 (by assumption) | exact hS0 | exact cA8 hS0 | with_reducible exact cL8 (by assumption) (by have := H.size; dsimp only; omega) (by have := H.size; dsimp only; omega) (by have := H.size; dsimp only; omega) (by have := H.size; dsimp only; omega) (by have := H.size; dsimp only; omega) (by have := H.size; dsimp only; omega) (by have := H.size; dsimp only; omega) (by have := H.size; dsimp only; omega) | exact cS8 (by assumption) (by dsimp only; omega) (by dsimp only; omega) (by dsimp only; omega) (by dsimp only; omega) (by dsimp only; omega) (by dsimp only; omega) (by dsimp only; omega) (by dsimp only; omega)) (first | (go_at_call 37; refine (toSeg_any _ _ _ _ _).mono ?_; rintro e zz ⟨rfl, K⟩; (first | (replace H := bw_trans H K; first | (replace AB := keep K AB; clear q0 q1 qf0 qf1; obtain ⟨q0, q1, qf0, qf1⟩ := blkF AB) | skip) | (have zb := H.size; have AB := keep K (heap_new _ _); replace H := bw_trans (bw_alloc H _) K; obtain ⟨q0, q1, qf0, qf1⟩ := blkF AB)); skip) | (go_at_call 28; refine (sApart_any ax ay bx b_y cx cy ex ey _).mono ?_; rintro e zz ⟨rfl, K⟩; (first | (replace H := bw_trans H K; first | (replace AB := keep K AB; clear q0 q1 qf0 qf1; obtain ⟨q0, q1, qf0, qf1⟩ := blkF AB) | skip) | (have zb := H.size; have AB := keep K (heap_new _ _); replace H := bw_trans (bw_alloc H _) K; obtain ⟨q0, q1, qf0, qf1⟩ := blkF AB)); skip))
    all_goals go_wp2_with fail
    all_goals go_meet
    all_goals (first | exact ⟨_, rfl, heap_new _ _, bw_alloc H _⟩ | exact ⟨_, rfl, setF2 AB, bw_set (bw_set H (by dsimp only; omega) _) (by dsimp only; omega) _⟩)
  case rest =>
    obtain ⟨b1, rfl, F1, HC⟩ := hcut
    replace S0 := keep HC S0
    replace S1 := keep HC S1
    have BC := bw_trans BW HC
    have zF := blk_lt F1
    clear HC BW
    go_upto_region 2 with fail
    go_cut [6] (fun s6 wd => ∃ b, s6 = .pointer (some ⟨b, 0, none⟩) ∧ wd.heap[b]? = some (.cells #[.int .i64 (apartV ax ay bx b_y cx cy ex ey).1, .int .i64 (apartV ax ay bx b_y cx cy ex ey).2] 34 (0, 0)) ∧ Below wc.heap.size wc wd)
    case first =>
      have H := bw_drew (bw_refl wc)
      have BW := BC
      have hs : Sent ad wc.drew := h0.below (bw_trans BC H)
      have zW := blk_lt S1
      have hS0 : (fun w' => w'.cell? ⟨w.heap.size, 0, none⟩ = some (.int .i64 ax) ∧ w'.cell? ⟨w.heap.size, 1, none⟩ = some (.int .i64 ay) ∧ w'.cell? ⟨w.heap.size, 2, none⟩ = some (.int .i64 bx) ∧ w'.cell? ⟨w.heap.size, 3, none⟩ = some (.int .i64 b_y) ∧ w'.cell? ⟨w.heap.size + 1, 0, none⟩ = some (.int .i64 cx) ∧ w'.cell? ⟨w.heap.size + 1, 1, none⟩ = some (.int .i64 cy) ∧ w'.cell? ⟨w.heap.size + 1, 2, none⟩ = some (.int .i64 ex) ∧ w'.cell? ⟨w.heap.size + 1, 3, none⟩ = some (.int .i64 ey)) wc := by
        obtain ⟨r00, r01, r02, r03⟩ := blk_4 S0
        obtain ⟨r10, r11, r12, r13⟩ := blk_4 S1
        exact ⟨r00, r01, r02, r03, r10, r11, r12, r13⟩

      go_region_held3 (fun w' => w'.cell? ⟨w.heap.size, 0, none⟩ = some (.int .i64 ax) ∧ w'.cell? ⟨w.heap.size, 1, none⟩ = some (.int .i64 ay) ∧ w'.cell? ⟨w.heap.size, 2, none⟩ = some (.int .i64 bx) ∧ w'.cell? ⟨w.heap.size, 3, none⟩ = some (.int .i64 b_y) ∧ w'.cell? ⟨w.heap.size + 1, 0, none⟩ = some (.int .i64 cx) ∧ w'.cell? ⟨w.heap.size + 1, 1, none⟩ = some (.int .i64 cy) ∧ w'.cell? ⟨w.heap.size + 1, 2, none⟩ = some (.int .i64 ex) ∧ w'.cell? ⟨w.heap.size + 1, 3, none⟩ = some (.int .i64 ey)) (first | with_reducible exact cB8 K (by assumption) | with_reducible exact cA8 (by assumption) | exact hS0 | exact cA8 hS0 | with_reducible exact cL8 (by assumption) (by have := H.size; dsimp only; omega) (by have := H.size; dsimp only; omega) (by have := H.size; dsimp only; omega) (by have := H.size; dsimp only; omega) (by have := H.size; dsimp only; omega) (by have := H.size; dsimp only; omega) (by have := H.size; dsimp only; omega) (by have := H.size; dsimp only; omega) | exact cS8 (by assumption) (by dsimp only; omega) (by dsimp only; omega) (by dsimp only; omega) (by dsimp only; omega) (by dsimp only; omega) (by dsimp only; omega) (by dsimp only; omega) (by dsimp only; omega)) (first | (go_at_call 37; refine (toSeg_any _ _ _ _ _).mono ?_; rintro e zz ⟨rfl, K⟩; (first | (replace H := bw_trans H K; first | (replace AB := keep K AB; clear q0 q1 qf0 qf1; obtain ⟨q0, q1, qf0, qf1⟩ := blkF AB) | skip) | (have zb := H.size; have AB := keep K (heap_new _ _); replace H := bw_trans (bw_alloc H _) K; obtain ⟨q0, q1, qf0, qf1⟩ := blkF AB)); skip; replace hs := h0.below (bw_trans BW H)) | (go_at_call 27; refine (segApart_any ax ay bx b_y cx cy ex ey ad _ ?_).mono ?_; (first | exact hs | exact hs.below (bw_alloc (bw_refl _) _)); rintro e zz ⟨rfl, K⟩; (first | (replace H := bw_trans H K; first | (replace AB := keep K AB; clear q0 q1 qf0 qf1; obtain ⟨q0, q1, qf0, qf1⟩ := blkF AB) | skip) | (have zb := H.size; have AB := keep K (heap_new _ _); replace H := bw_trans (bw_alloc H _) K; obtain ⟨q0, q1, qf0, qf1⟩ := blkF AB)); skip))
      all_goals go_wp2_with fail
      all_goals go_meet
      all_goals (first | exact ⟨_, rfl, heap_new _ _, bw_alloc H _⟩ | exact ⟨_, rfl, setF2 AB, bw_set (bw_set H (by dsimp only; omega) _) (by dsimp only; omega) _⟩)
    case rest =>
      obtain ⟨b2, rfl, F2, HD⟩ := hcut
      replace F1 := keep HD F1
      have BD := bw_trans BC HD
      obtain ⟨x0, x1⟩ := blk_2 F1
      obtain ⟨y0, y1⟩ := blk_2 F2
      go_wp2_with fail
      refine (eqFrac_same _ _ _).mono ?_
      rintro e w9 ⟨rfl, K9⟩
      go_wp2_with fail
      go_ret
      exact ⟨rfl, bw_trans BD K9⟩
end Go.Proofs.YtmjbfocghlhecaaDoor
