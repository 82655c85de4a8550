/-
  OUR OWN TEXT. How far two segments are apart, as the specification has it, by contract.
-/
import Derived.Test.YtmjbfocghlhecaaDoorApart
namespace Go.Proofs.YtmjbfocghlhecaaDoor
open Go.RowKit Go.Sort

set_option maxHeartbeats 1000000 in
theorem sApart_meet (ax ay bx b_y cx cy ex ey : Int) (w : World) (gs : sgB ax ay bx b_y = true) (gt : sgB cx cy ex ey = true) (hm : meetC ax ay bx b_y cx cy ex ey = true) :
    Calls Tryd.prog 59 #[.agg #[.int .i64 ax, .int .i64 ay, .int .i64 bx, .int .i64 b_y], .agg #[.int .i64 cx, .int .i64 cy, .int .i64 ex, .int .i64 ey]] w fun e w' => e = .returned (.agg #[.int .i64 0, .int .i64 1]) ∧ Below w.heap.size w w' := by
  go_enter Tryd.func59, Tryd.ntmps59
  go_wp2_with fail
  refine (sMeet_ok _ _ _ _ _ _ _ _ _ gs gt).mono ?_
  rw [hm]
  rintro e w1 ⟨rfl, J⟩
  obtain ⟨hc, hf⟩ := bcell J
  have HB : Hid (Below w.heap.size w w1) := bw_trans (by repeat (first | exact bw_refl _ | assumption | apply bw_drewN | apply bw_drew | apply bw_alloc | refine bw_set ?_ (by simp) _)) J
  have hz := J.size
  simp at hz
  have hz' : w.heap.size + 2 < w1.heap.size := by omega
  clear hz J
  go_wp2_with fail
  exact bodyPost_ret (v := .agg #[.int .i64 0, .int .i64 1]) (by simp [results, Tryd.results59, go_sem, hc]) rfl ⟨rfl, by repeat (first | with_reducible exact HB.out | with_reducible refine bw_set ?_ (by dsimp only; omega) _)⟩
set_option maxHeartbeats 4000000 in
theorem sApart_far (ax ay bx b_y cx cy ex ey : Int) (w : World) (gs : sgB ax ay bx b_y = true) (gt : sgB cx cy ex ey = true) (hm : meetC ax ay bx b_y cx cy ex ey = false) :
    Calls Tryd.prog 59 #[.agg #[.int .i64 ax, .int .i64 ay, .int .i64 bx, .int .i64 b_y], .agg #[.int .i64 cx, .int .i64 cy, .int .i64 ex, .int .i64 ey]] w fun e w' => e = .returned (.agg #[.int .i64 (mn (mn (far ax ay bx b_y cx cy) (far ax ay bx b_y ex ey)) (mn (far cx cy ex ey ax ay) (far cx cy ex ey bx b_y))).1, .int .i64 (mn (mn (far ax ay bx b_y cx cy) (far ax ay bx b_y ex ey)) (mn (far cx cy ex ey ax ay) (far cx cy ex ey bx b_y))).2]) ∧ Below w.heap.size w w' := by
  obtain ⟨pa, pb, _⟩ := sg_parts gs
  obtain ⟨pc, pd, _⟩ := sg_parts gt
  obtain ⟨o1, o2, o3, o4⟩ := four_ok gs gt
  obtain ⟨W, hW, BW, SB, TB, RB⟩ := boxes3 w (.cells #[.int .i64 ax, .int .i64 ay, .int .i64 bx, .int .i64 b_y] 26) (.cells #[.int .i64 cx, .int .i64 cy, .int .i64 ex, .int .i64 ey] 26) (.cells #[.int .i64 0, .int .i64 0] 34)
  have FA0 : Hid (∀ w, Calls Tryd.prog 53 #[.agg #[.int .i64 ax, .int .i64 ay, .int .i64 bx, .int .i64 b_y], .agg #[.int .i64 cx, .int .i64 cy]] w fun e w' => e = .returned (.agg #[.int .i64 (far ax ay bx b_y cx cy).1, .int .i64 (far ax ay bx b_y cx cy).2]) ∧ Below w.heap.size w w') := fun w => sFar_ok ax ay bx b_y cx cy w gs pc
  have FA1 : Hid (∀ w, Calls Tryd.prog 53 #[.agg #[.int .i64 ax, .int .i64 ay, .int .i64 bx, .int .i64 b_y], .agg #[.int .i64 ex, .int .i64 ey]] w fun e w' => e = .returned (.agg #[.int .i64 (far ax ay bx b_y ex ey).1, .int .i64 (far ax ay bx b_y ex ey).2]) ∧ Below w.heap.size w w') := fun w => sFar_ok ax ay bx b_y ex ey w gs pd
  have FA2 : Hid (∀ w, Calls Tryd.prog 53 #[.agg #[.int .i64 cx, .int .i64 cy, .int .i64 ex, .int .i64 ey], .agg #[.int .i64 ax, .int .i64 ay]] w fun e w' => e = .returned (.agg #[.int .i64 (far cx cy ex ey ax ay).1, .int .i64 (far cx cy ex ey ax ay).2]) ∧ Below w.heap.size w w') := fun w => sFar_ok cx cy ex ey ax ay w gt pa
  have FA3 : Hid (∀ w, Calls Tryd.prog 53 #[.agg #[.int .i64 cx, .int .i64 cy, .int .i64 ex, .int .i64 ey], .agg #[.int .i64 bx, .int .i64 b_y]] w fun e w' => e = .returned (.agg #[.int .i64 (far cx cy ex ey bx b_y).1, .int .i64 (far cx cy ex ey bx b_y).2]) ∧ Below w.heap.size w w') := fun w => sFar_ok cx cy ex ey bx b_y w gt pb
  have L1 : Hid _ := fun w => sLeast_ok (far ax ay bx b_y cx cy) (far ax ay bx b_y ex ey) w o1 o2
  have L2 : Hid _ := fun w => sLeast_ok (far cx cy ex ey ax ay) (far cx cy ex ey bx b_y) w o3 o4
  have L3 : Hid _ := fun w => sLeast_ok (mn (far ax ay bx b_y cx cy) (far ax ay bx b_y ex ey)) (mn (far cx cy ex ey ax ay) (far cx cy ex ey bx b_y)) w (mn_ok o1 o2) (mn_ok o3 o4)
  go_enter Tryd.func59, Tryd.ntmps59
  go_wp2_with fail
  refine (sMeet_ok _ _ _ _ _ _ _ _ _ gs gt).mono ?_
  rw [hm]
  rintro e w1 ⟨rfl, J⟩
  obtain ⟨hc, hf⟩ := bcell J
  go_upto_region 3 with fail
  rw [← hW] at J
  replace SB := keep J SB
  replace TB := keep J TB
  replace RB := keep J RB
  have zr := blk_lt RB
  have H := (bw_trans BW J).drew
  have hS0 : (fun w' => w'.cell? ⟨w.heap.size, 0, none⟩ = some (.int .i64 ax) ∧ w'.cell? ⟨w.heap.size, 1, none⟩ = some (.int .i64 ay) ∧ w'.cell? ⟨w.heap.size, 2, none⟩ = some (.int .i64 bx) ∧ w'.cell? ⟨w.heap.size, 3, none⟩ = some (.int .i64 b_y) ∧ w'.cell? ⟨w.heap.size + 1, 0, none⟩ = some (.int .i64 cx) ∧ w'.cell? ⟨w.heap.size + 1, 1, none⟩ = some (.int .i64 cy) ∧ w'.cell? ⟨w.heap.size + 1, 2, none⟩ = some (.int .i64 ex) ∧ w'.cell? ⟨w.heap.size + 1, 3, none⟩ = some (.int .i64 ey)) w1 := by
    obtain ⟨s0, s1, s2, s3⟩ := blk_4 SB
    obtain ⟨t0, t1, t2, t3⟩ := blk_4 TB
    exact ⟨s0, s1, s2, s3, t0, t1, t2, t3⟩
  clear hW hc hf J SB TB BW
  replace RB : w1.drew.heap[w.heap.size + 2]? = _ := RB
  clear gs gt hm pa pb pc pd o1 o2 o3 o4
  go_region_held3 (fun w' => w'.cell? ⟨w.heap.size, 0, none⟩ = some (.int .i64 ax) ∧ w'.cell? ⟨w.heap.size, 1, none⟩ = some (.int .i64 ay) ∧ w'.cell? ⟨w.heap.size, 2, none⟩ = some (.int .i64 bx) ∧ w'.cell? ⟨w.heap.size, 3, none⟩ = some (.int .i64 b_y) ∧ w'.cell? ⟨w.heap.size + 1, 0, none⟩ = some (.int .i64 cx) ∧ w'.cell? ⟨w.heap.size + 1, 1, none⟩ = some (.int .i64 cy) ∧ w'.cell? ⟨w.heap.size + 1, 2, none⟩ = some (.int .i64 ex) ∧ w'.cell? ⟨w.heap.size + 1, 3, none⟩ = some (.int .i64 ey)) (first | with_reducible exact cB8 K (by assumption) | with_reducible exact cA8 (by assumption) | exact hS0 | exact cS8 (by assumption) (by dsimp only; omega) (by dsimp only; omega) (by dsimp only; omega) (by dsimp only; omega) (by dsimp only; omega) (by dsimp only; omega) (by dsimp only; omega) (by dsimp only; omega)) (first | (go_at_call 53; refine (FA0.out _).mono ?_; clear FA0; rintro e v0 ⟨rfl, K⟩; replace H := bw_trans H K; replace RB := keep K RB; obtain ⟨q0, q1, qf0, qf1⟩ := blkF RB) | (go_at_call 53; refine (FA1.out _).mono ?_; clear FA1; rintro e v1 ⟨rfl, K⟩; replace H := bw_trans H K; replace RB := keep K RB; obtain ⟨q0, q1, qf0, qf1⟩ := blkF RB) | (go_at_call 53; refine (FA2.out _).mono ?_; clear FA2; rintro e v2 ⟨rfl, K⟩; replace H := bw_trans H K; replace RB := keep K RB; obtain ⟨q0, q1, qf0, qf1⟩ := blkF RB) | (go_at_call 53; refine (FA3.out _).mono ?_; clear FA3; rintro e v3 ⟨rfl, K⟩; replace H := bw_trans H K; replace RB := keep K RB; obtain ⟨q0, q1, qf0, qf1⟩ := blkF RB) | (go_at_call 74; refine (L1.out _).mono ?_; clear L1; rintro e vl1 ⟨rfl, K⟩; replace H := bw_trans H K; replace RB := keep K RB; obtain ⟨q0, q1, qf0, qf1⟩ := blkF RB) | (go_at_call 74; refine (L2.out _).mono ?_; clear L2; rintro e vl2 ⟨rfl, K⟩; replace H := bw_trans H K; replace RB := keep K RB; obtain ⟨q0, q1, qf0, qf1⟩ := blkF RB) | (go_at_call 74; refine (L3.out _).mono ?_; clear L3; rintro e vl3 ⟨rfl, K⟩; replace H := bw_trans H K; replace RB := keep K RB; obtain ⟨q0, q1, qf0, qf1⟩ := blkF RB))
  have HB : Hid _ := H
  have zz := blk_lt RB
  have R2 := setF2 RB (u0 := .int .i64 (mn (mn (far ax ay bx b_y cx cy) (far ax ay bx b_y ex ey)) (mn (far cx cy ex ey ax ay) (far cx cy ex ey bx b_y))).1) (u1 := .int .i64 (mn (mn (far ax ay bx b_y cx cy) (far ax ay bx b_y ex ey)) (mn (far cx cy ex ey ax ay) (far cx cy ex ey bx b_y))).2)
  obtain ⟨r0, r1⟩ := blk_2 R2
  clear H RB R2
  go_wp2_with fail
  exact bodyPost_ret (v := .agg #[.int .i64 (mn (mn (far ax ay bx b_y cx cy) (far ax ay bx b_y ex ey)) (mn (far cx cy ex ey ax ay) (far cx cy ex ey bx b_y))).1, .int .i64 (mn (mn (far ax ay bx b_y cx cy) (far ax ay bx b_y ex ey)) (mn (far cx cy ex ey ax ay) (far cx cy ex ey bx b_y))).2]) (by simp [results, Tryd.results59, go_sem, r0, r1]) rfl ⟨rfl, by repeat (first | with_reducible exact HB.out | with_reducible refine bw_set ?_ (by dsimp only; omega) _)⟩
set_option maxHeartbeats 1000000 in
theorem sApart_no (ax ay bx b_y cx cy ex ey : Int) (w : World) (h : sgB ax ay bx b_y = false ∨ (sgB ax ay bx b_y = true ∧ sgB cx cy ex ey = false)) :
    Calls Tryd.prog 28 #[.agg #[.int .i64 ax, .int .i64 ay, .int .i64 bx, .int .i64 b_y], .agg #[.int .i64 cx, .int .i64 cy, .int .i64 ex, .int .i64 ey]] w fun e w' => e = .returned (.agg #[.int .i64 0, .int .i64 0]) ∧ Below w.heap.size w w' := by
  rcases h with gs | ⟨gs, gt⟩
  · go_enter Tryd.func28, Tryd.ntmps28
    go_wp2_with fail
    refine (sSeg_any _ _ _ _ _).mono ?_
    rw [gs]
    rintro e w1 ⟨rfl, J⟩
    obtain ⟨hc, hf⟩ := bcell J
    have HB : Hid (Below w.heap.size w w1) := bw_trans (by repeat (first | exact bw_refl _ | assumption | apply bw_drewN | apply bw_drew | apply bw_alloc | refine bw_set ?_ (by simp) _)) J
    have hz := J.size
    simp at hz
    have hz' : w.heap.size + 2 < w1.heap.size := by omega
    clear hz J
    go_wp2_with fail
    exact bodyPost_ret (v := .agg #[.int .i64 0, .int .i64 0]) (by simp [results, Tryd.results28, go_sem, hc]) rfl ⟨rfl, by repeat (first | with_reducible exact HB.out | with_reducible refine bw_set ?_ (by dsimp only; omega) _)⟩
  · go_enter Tryd.func28, Tryd.ntmps28
    go_wp2_with fail
    refine (sSeg_any _ _ _ _ _).mono ?_
    rw [gs]
    rintro e w1 ⟨rfl, J⟩
    obtain ⟨hc, hf⟩ := bcell J
    go_wp2_with fail
    refine (sSeg_any _ _ _ _ _).mono ?_
    rw [gt]
    rintro e w1 ⟨rfl, J2⟩
    replace J := bw_trans J J2
    clear hc hf J2
    obtain ⟨hc, hf⟩ := bcell J
    have HB : Hid (Below w.heap.size w w1) := bw_trans (by repeat (first | exact bw_refl _ | assumption | apply bw_drewN | apply bw_drew | apply bw_alloc | refine bw_set ?_ (by simp) _)) J
    have hz := J.size
    simp at hz
    have hz' : w.heap.size + 2 < w1.heap.size := by omega
    clear hz J
    go_wp2_with fail
    exact bodyPost_ret (v := .agg #[.int .i64 0, .int .i64 0]) (by simp [results, Tryd.results28, go_sem, hc]) rfl ⟨rfl, by repeat (first | with_reducible exact HB.out | with_reducible refine bw_set ?_ (by dsimp only; omega) _)⟩
theorem sApart_ok (ax ay bx b_y cx cy ex ey : Int) (w : World) (gs : sgB ax ay bx b_y = true) (gt : sgB cx cy ex ey = true) :
    Calls Tryd.prog 59 #[.agg #[.int .i64 ax, .int .i64 ay, .int .i64 bx, .int .i64 b_y], .agg #[.int .i64 cx, .int .i64 cy, .int .i64 ex, .int .i64 ey]] w fun e w' => e = .returned (.agg #[.int .i64 (apart ax ay bx b_y cx cy ex ey).1, .int .i64 (apart ax ay bx b_y cx cy ex ey).2]) ∧ Below w.heap.size w w' := by
  obtain ⟨o1, o2, o3, o4⟩ := four_ok gs gt
  unfold apart
  cases hm : meetC ax ay bx b_y cx cy ex ey
  · have := sApart_far ax ay bx b_y cx cy ex ey w gs gt hm
    rwa [show (mn (mn (far ax ay bx b_y cx cy) (far ax ay bx b_y ex ey)) (mn (far cx cy ex ey ax ay) (far cx cy ex ey bx b_y))) = (mnA (far ax ay bx b_y cx cy) (far ax ay bx b_y ex ey) (far cx cy ex ey ax ay) (far cx cy ex ey bx b_y)) from mnA_mnB o1 o2 o3 o4] at this
  · exact sApart_meet _ _ _ _ _ _ _ _ w gs gt hm
set_option maxHeartbeats 1000000 in
theorem sApart_any (ax ay bx b_y cx cy ex ey : Int) (w : World) :
    Calls Tryd.prog 28 #[.agg #[.int .i64 ax, .int .i64 ay, .int .i64 bx, .int .i64 b_y], .agg #[.int .i64 cx, .int .i64 cy, .int .i64 ex, .int .i64 ey]] w fun e w' => e = .returned (.agg #[.int .i64 (apartV ax ay bx b_y cx cy ex ey).1, .int .i64 (apartV ax ay bx b_y cx cy ex ey).2]) ∧ Below w.heap.size w w' := by
  cases gs : sgB ax ay bx b_y
  · have e : apartV ax ay bx b_y cx cy ex ey = (0, 0) := by unfold apartV; rw [gs]; rfl
    rw [e]; exact sApart_no _ _ _ _ _ _ _ _ w (.inl gs)
  · cases gt : sgB cx cy ex ey
    · have e : apartV ax ay bx b_y cx cy ex ey = (0, 0) := by unfold apartV; rw [gs, gt]; rfl
      rw [e]; exact sApart_no _ _ _ _ _ _ _ _ w (.inr ⟨gs, gt⟩)
    · rw [apartV_ok gs gt]
      go_enter Tryd.func28, Tryd.ntmps28
      go_wp2_with fail
      refine (sSeg_any _ _ _ _ _).mono ?_
      rw [gs]
      rintro e w1 ⟨rfl, J⟩
      obtain ⟨hc, hf⟩ := bcell J
      go_wp2_with fail
      refine (sSeg_any _ _ _ _ _).mono ?_
      rw [gt]
      rintro e w1 ⟨rfl, J2⟩
      replace J := bw_trans J J2
      clear hc hf J2
      obtain ⟨hc, hf⟩ := bcell J
      go_wp2_with fail
      refine (sApart_ok _ _ _ _ _ _ _ _ _ gs gt).mono ?_
      rintro e w1 ⟨rfl, J2⟩
      replace J := bw_trans J J2
      clear hc hf J2
      obtain ⟨hc, hf⟩ := bcell J
      have HB : Hid (Below w.heap.size w w1) := bw_trans (by repeat (first | exact bw_refl _ | assumption | apply bw_drewN | apply bw_drew | apply bw_alloc | refine bw_set ?_ (by simp) _)) J
      have hz := J.size
      simp at hz
      have hz' : w.heap.size + 2 < w1.heap.size := by omega
      clear hz J
      go_wp2_with fail
      exact bodyPost_ret (v := .agg #[.int .i64 (apart ax ay bx b_y cx cy ex ey).1, .int .i64 (apart ax ay bx b_y cx cy ex ey).2]) (by simp [results, Tryd.results28, go_sem, hc]) rfl ⟨rfl, by repeat (first | with_reducible exact HB.out | with_reducible refine bw_set ?_ (by dsimp only; omega) _)⟩
end Go.Proofs.YtmjbfocghlhecaaDoor
