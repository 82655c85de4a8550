/-
  OUR OWN TEXT. The exact laws of points, segments, turning, having and meeting, walked: called at any argument each answers true and writes nothing that was there.
-/
import Derived.Test.YtmjbfocghlhecaaSMeet
import Derived.Test.YtmjbfocghlhecaaSTurn
import Derived.Test.YtmjbfocghlhecaaToPt
namespace Go.Proofs.Ytmjbfocghlhecaa
open Go.RowKit Go.Sort

theorem exPt_walk (x y : Int) (_wx : (Lit.int .i64 x).wf = true) (_wy : (Lit.int .i64 y).wf = true) (w : World) :
    Calls Try.prog 11 #[.agg #[.int .i64 x, .int .i64 y]] w fun e w' => e = .returned (.bool true) ∧ Below w.heap.size w w' := by
  have hne : (ptB x y != ptB x y) = false := by simp
  go_enter Try.func11, Try.ntmps11
  go_wp2_with fail
  refine (toPt_any _ _ _).mono ?_
  rintro e w1 ⟨rfl, J⟩
  obtain ⟨hc, hf⟩ := bcell J
  go_wp2_with fail
  refine (sPt_any _ _ _).mono ?_
  rintro e w1 ⟨rfl, J2⟩
  replace J := bw_trans J J2
  clear hc hf J2
  obtain ⟨hc, hf⟩ := bcell J
  go_wp2_with fail
  refine (toPt_any _ _ _).mono ?_
  rintro e w1 ⟨rfl, J2⟩
  replace J := bw_trans J J2
  clear hc hf J2
  obtain ⟨hc, hf⟩ := bcell J
  go_wp2_with fail
  refine (ptOk_any _ _ _).mono ?_
  rintro e w1 ⟨rfl, J2⟩
  replace J := bw_trans J J2
  clear hc hf J2
  obtain ⟨hc, hf⟩ := bcell J
  go_wp2_with fail
  go_ret
  exact ⟨rfl, bw_trans (by repeat (first | exact bw_refl _ | assumption | apply bw_drewN | apply bw_drew | apply bw_alloc | refine bw_set ?_ (by simp) _)) J⟩
theorem exSeg_walk (ax ay bx b_y : Int) (_wax : (Lit.int .i64 ax).wf = true) (_way : (Lit.int .i64 ay).wf = true) (_wbx : (Lit.int .i64 bx).wf = true) (_wb_y : (Lit.int .i64 b_y).wf = true) (w : World) :
    Calls Try.prog 12 #[.agg #[.int .i64 ax, .int .i64 ay, .int .i64 bx, .int .i64 b_y]] w fun e w' => e = .returned (.bool true) ∧ Below w.heap.size w w' := by
  have hne : (sgB ax ay bx b_y != sgB ax ay bx b_y) = false := by simp
  go_enter Try.func12, Try.ntmps12
  go_wp2_with fail
  refine (toSeg_any _ _ _ _ _).mono ?_
  rintro e w1 ⟨rfl, J⟩
  obtain ⟨hc, hf⟩ := bcell J
  go_wp2_with fail
  refine (sSeg_any _ _ _ _ _).mono ?_
  rintro e w1 ⟨rfl, J2⟩
  replace J := bw_trans J J2
  clear hc hf J2
  obtain ⟨hc, hf⟩ := bcell J
  go_wp2_with fail
  refine (toSeg_any _ _ _ _ _).mono ?_
  rintro e w1 ⟨rfl, J2⟩
  replace J := bw_trans J J2
  clear hc hf J2
  obtain ⟨hc, hf⟩ := bcell J
  go_wp2_with fail
  refine (segOk_any _ _ _ _ _).mono ?_
  rintro e w1 ⟨rfl, J2⟩
  replace J := bw_trans J J2
  clear hc hf J2
  obtain ⟨hc, hf⟩ := bcell J
  go_wp2_with fail
  go_ret
  exact ⟨rfl, bw_trans (by repeat (first | exact bw_refl _ | assumption | apply bw_drewN | apply bw_drew | apply bw_alloc | refine bw_set ?_ (by simp) _)) J⟩
set_option maxHeartbeats 1000000 in
theorem exTurn_walk (ax ay : Int) (_wax : (Lit.int .i64 ax).wf = true) (_way : (Lit.int .i64 ay).wf = true) (bx b_y : Int) (_wbx : (Lit.int .i64 bx).wf = true) (_wb_y : (Lit.int .i64 b_y).wf = true) (cx cy : Int) (_wcx : (Lit.int .i64 cx).wf = true) (_wcy : (Lit.int .i64 cy).wf = true) (w : World) :
    Calls Try.prog 13 #[.agg #[.int .i64 ax, .int .i64 ay], .agg #[.int .i64 bx, .int .i64 b_y], .agg #[.int .i64 cx, .int .i64 cy]] w fun e w' => e = .returned (.bool true) ∧ Below w.heap.size w w' := by
  have hne : (turnV ax ay bx b_y cx cy != turnV ax ay bx b_y cx cy) = false := by simp
  obtain ⟨W, hW, BW, S0, S1, S2⟩ := boxes3 w (.cells #[.int .i64 ax, .int .i64 ay] 44) (.cells #[.int .i64 bx, .int .i64 b_y] 44) (.cells #[.int .i64 cx, .int .i64 cy] 44)
  obtain ⟨u0, u1⟩ := reg_2 S0
  obtain ⟨u2, u3⟩ := reg_2 S1
  obtain ⟨u4, u5⟩ := reg_2 S2
  go_enter Try.func13, Try.ntmps13
  go_upto_region 1 with fail
  rw [← hW]
  clear hW
  refine wp_region_quiet_below (by kernel_rfl) (by kernel_rfl) ?_
  repeat (first | go_big_quiet_step (first | (go_at_call 34; exact Calls.regrown_of (toPt_any _ _ _)) | (go_at_call 27; exact Calls.regrown_of (sTurn_any _ _ _ _ _ _ _))))
  refine wpQuiet_nil ?_
  intro _ hw'
  obtain ⟨⟨dq, osq⟩, hw''⟩ := hw'
  subst hw''
  have J := below_regrown W dq osq
  generalize grow (redrawn W dq) osq = w1 at J ⊢
  replace BW := bw_trans BW J
  replace S0 := keep J S0
  replace S1 := keep J S1
  replace S2 := keep J S2
  clear J u0 u1 u2 u3 u4 u5
  obtain ⟨u0, u1⟩ := reg_2 S0
  obtain ⟨u2, u3⟩ := reg_2 S1
  obtain ⟨u4, u5⟩ := reg_2 S2
  go_upto_region 2 with fail
  refine wp_region_quiet_below (by kernel_rfl) (by kernel_rfl) ?_
  repeat (first | go_big_quiet_step (first | (go_at_call 34; exact Calls.regrown_of (toPt_any _ _ _)) | (go_at_call 26; exact Calls.regrown_of (turn_any _ _ _ _ _ _ _))))
  refine wpQuiet_nil ?_
  intro _ hw'
  obtain ⟨⟨dq, osq⟩, hw''⟩ := hw'
  subst hw''
  have J := below_regrown w1 dq osq
  generalize grow (redrawn w1 dq) osq = w2 at J ⊢
  replace BW := bw_trans BW J
  go_wp2_with fail
  go_ret
  exact ⟨rfl, BW⟩
set_option maxHeartbeats 1000000 in
theorem exHas_walk (ax ay bx b_y : Int) (_wax : (Lit.int .i64 ax).wf = true) (_way : (Lit.int .i64 ay).wf = true) (_wbx : (Lit.int .i64 bx).wf = true) (_wb_y : (Lit.int .i64 b_y).wf = true) (px py : Int) (_wpx : (Lit.int .i64 px).wf = true) (_wpy : (Lit.int .i64 py).wf = true) (w : World) :
    Calls Try.prog 14 #[.agg #[.int .i64 ax, .int .i64 ay, .int .i64 bx, .int .i64 b_y], .agg #[.int .i64 px, .int .i64 py]] w fun e w' => e = .returned (.bool true) ∧ Below w.heap.size w w' := by
  have hne : (hasV ax ay bx b_y px py != hasV ax ay bx b_y px py) = false := by simp
  obtain ⟨W, hW, BW, S0, S1⟩ := boxes2 w (.cells #[.int .i64 ax, .int .i64 ay, .int .i64 bx, .int .i64 b_y] 48) (.cells #[.int .i64 px, .int .i64 py] 44)
  obtain ⟨u0, u1, u2, u3⟩ := reg_4 S0
  obtain ⟨u4, u5⟩ := reg_2 S1
  go_enter Try.func14, Try.ntmps14
  go_upto_region 1 with fail
  rw [← hW]
  clear hW
  refine wp_region_quiet_below (by kernel_rfl) (by kernel_rfl) ?_
  repeat (first | go_big_quiet_step (first | (go_at_call 34; exact Calls.regrown_of (toPt_any _ _ _)) | (go_at_call 35; exact Calls.regrown_of (toSeg_any _ _ _ _ _)) | (go_at_call 30; exact Calls.regrown_of (sHas_any _ _ _ _ _ _ _))))
  refine wpQuiet_nil ?_
  intro _ hw'
  obtain ⟨⟨dq, osq⟩, hw''⟩ := hw'
  subst hw''
  have J := below_regrown W dq osq
  generalize grow (redrawn W dq) osq = w1 at J ⊢
  replace BW := bw_trans BW J
  replace S0 := keep J S0
  replace S1 := keep J S1
  clear J u0 u1 u2 u3 u4 u5
  obtain ⟨u0, u1, u2, u3⟩ := reg_4 S0
  obtain ⟨u4, u5⟩ := reg_2 S1
  go_upto_region 2 with fail
  refine wp_region_quiet_below (by kernel_rfl) (by kernel_rfl) ?_
  repeat (first | go_big_quiet_step (first | (go_at_call 34; exact Calls.regrown_of (toPt_any _ _ _)) | (go_at_call 35; exact Calls.regrown_of (toSeg_any _ _ _ _ _)) | (go_at_call 29; exact Calls.regrown_of (has_any _ _ _ _ _ _ _))))
  refine wpQuiet_nil ?_
  intro _ hw'
  obtain ⟨⟨dq, osq⟩, hw''⟩ := hw'
  subst hw''
  have J := below_regrown w1 dq osq
  generalize grow (redrawn w1 dq) osq = w2 at J ⊢
  replace BW := bw_trans BW J
  go_wp2_with fail
  go_ret
  exact ⟨rfl, BW⟩
set_option maxHeartbeats 1000000 in
theorem exMeet_walk (ax ay bx b_y : Int) (_wax : (Lit.int .i64 ax).wf = true) (_way : (Lit.int .i64 ay).wf = true) (_wbx : (Lit.int .i64 bx).wf = true) (_wb_y : (Lit.int .i64 b_y).wf = true) (cx cy ex ey : Int) (_wcx : (Lit.int .i64 cx).wf = true) (_wcy : (Lit.int .i64 cy).wf = true) (_wex : (Lit.int .i64 ex).wf = true) (_wey : (Lit.int .i64 ey).wf = true) (w : World) :
    Calls Try.prog 15 #[.agg #[.int .i64 ax, .int .i64 ay, .int .i64 bx, .int .i64 b_y], .agg #[.int .i64 cx, .int .i64 cy, .int .i64 ex, .int .i64 ey]] w fun e w' => e = .returned (.bool true) ∧ Below w.heap.size w w' := by
  have hne : (meetV ax ay bx b_y cx cy ex ey != meetV ax ay bx b_y cx cy ex ey) = false := by simp
  obtain ⟨W, hW, BW, S0, S1⟩ := boxes2 w (.cells #[.int .i64 ax, .int .i64 ay, .int .i64 bx, .int .i64 b_y] 48) (.cells #[.int .i64 cx, .int .i64 cy, .int .i64 ex, .int .i64 ey] 48)
  obtain ⟨u0, u1, u2, u3⟩ := reg_4 S0
  obtain ⟨u4, u5, u6, u7⟩ := reg_4 S1
  go_enter Try.func15, Try.ntmps15
  go_upto_region 1 with fail
  rw [← hW]
  clear hW
  refine wp_region_quiet_below (by kernel_rfl) (by kernel_rfl) ?_
  repeat (first | go_big_quiet_step (first | (go_at_call 35; exact Calls.regrown_of (toSeg_any _ _ _ _ _)) | (go_at_call 33; exact Calls.regrown_of (sMeet_any _ _ _ _ _ _ _ _ _))))
  refine wpQuiet_nil ?_
  intro _ hw'
  obtain ⟨⟨dq, osq⟩, hw''⟩ := hw'
  subst hw''
  have J := below_regrown W dq osq
  generalize grow (redrawn W dq) osq = w1 at J ⊢
  replace BW := bw_trans BW J
  replace S0 := keep J S0
  replace S1 := keep J S1
  clear J u0 u1 u2 u3 u4 u5 u6 u7
  obtain ⟨u0, u1, u2, u3⟩ := reg_4 S0
  obtain ⟨u4, u5, u6, u7⟩ := reg_4 S1
  go_upto_region 2 with fail
  refine wp_region_quiet_below (by kernel_rfl) (by kernel_rfl) ?_
  repeat (first | go_big_quiet_step (first | (go_at_call 35; exact Calls.regrown_of (toSeg_any _ _ _ _ _)) | (go_at_call 32; exact Calls.regrown_of (meet_any _ _ _ _ _ _ _ _ _))))
  refine wpQuiet_nil ?_
  intro _ hw'
  obtain ⟨⟨dq, osq⟩, hw''⟩ := hw'
  subst hw''
  have J := below_regrown w1 dq osq
  generalize grow (redrawn w1 dq) osq = w2 at J ⊢
  replace BW := bw_trans BW J
  go_wp2_with fail
  go_ret
  exact ⟨rfl, BW⟩
end Go.Proofs.Ytmjbfocghlhecaa
