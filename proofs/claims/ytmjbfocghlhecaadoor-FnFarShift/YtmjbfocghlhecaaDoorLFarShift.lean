/-
  OUR OWN TEXT. The law FnFarShift, walked: whatever bytes come in, it answers true and writes nothing that was there.
-/
import Derived.Test.YtmjbfocghlhecaaDoorDrawD
import Derived.Test.YtmjbfocghlhecaaDoorLuD
import Derived.Test.YtmjbfocghlhecaaDoorFarAny
import Derived.Test.YtmjbfocghlhecaaDoorSFar
namespace Go.Proofs.YtmjbfocghlhecaaDoor
open Go.RowKit Go.Sort

theorem farShift_long (w : World) (a0 : Option Addr) (len0 cap0 : Nat) (h : 1048576 < len0) :
    Calls Tryd.prog 10 #[.slice a0 len0 cap0] w fun e w' => e = .returned (.bool true) ∧ Below w.heap.size w w' := by
  go_enter Tryd.func10, Tryd.ntmps10
  go_wp2
  go_ret
  exact ⟨rfl, bw_refl _⟩
set_option maxHeartbeats 2000000 in
theorem farShift_walk (w : World) (a0 : Option Addr) (len0 cap0 : Nat) (z0 : List Int) (r0 : IsRow .u8 w a0 len0 cap0 z0) (ad : Addr) (hs0 : Sent ad w) :
    Calls Tryd.prog 10 #[.slice a0 len0 cap0] w fun e w' => e = .returned (.bool true) ∧ Below w.heap.size w w' := by
  by_cases hl : 1048576 < len0
  · exact farShift_long w a0 len0 cap0 hl
  have hl0 : len0 ≤ 1048576 := by omega
  clear hl
  go_enter Tryd.func10, Tryd.ntmps10
  go_wp2_with fail
  refine (drawFar_any w _ r0 (bw_refl _)).mono ?_
  rintro e w0 ⟨ax, ay, bx, b_y, px, py, rfl, b1⟩
  obtain ⟨W, hW, BW, S, T⟩ := boxes2 w0 (.cells #[.int .i64 ax, .int .i64 ay, .int .i64 bx, .int .i64 b_y] 26) (.cells #[.int .i64 px, .int .i64 py] 24)
  replace BW := bw_trans b1 BW
  clear b1
  go_upto_region 4 with fail
  rw [← hW]
  clear hW
  have hs := hs0.below BW
  have zS := blk_lt S
  obtain ⟨fS0, fS1, fS2, fS3⟩ := blk_4 S
  have zT := blk_lt T
  obtain ⟨fT0, fT1⟩ := blk_2 T
  clear hs0
  cases gs : sgB ax ay bx b_y
  · have e0 : farV ax ay bx b_y px py = (0, 0) := by unfold farV; rw [gs]; rfl
    have X0 := segFar_any ax ay bx b_y px py ad W hs
    have Y0 : Hid (∀ w, Calls Tryd.prog 23 #[.agg #[.int .i64 ax, .int .i64 ay, .int .i64 bx, .int .i64 b_y], .agg #[.int .i64 px, .int .i64 py]] w fun e w' => e = .returned (.agg #[.int .i64 0, .int .i64 0]) ∧ Below w.heap.size w w') := fun w => by have := sFar_any ax ay bx b_y px py w; rwa [e0] at this
    have G0 : Hid (∀ w, Calls Tryd.prog 17 #[.agg #[.int .i64 ax, .int .i64 ay, .int .i64 bx, .int .i64 b_y]] w fun e w' => e = .returned (.bool false) ∧ Below w.heap.size w w') := fun w => by have := sSeg_any ax ay bx b_y w; rwa [gs] at this
    rw [e0] at X0
    clear e0
    go_wp2_with fail
    refine (X0).mono ?_
    rintro e w1 ⟨rfl, J⟩
    obtain ⟨W1, hW1, B1, F⟩ := boxes1 w1 (.cells #[.int .i64 0, .int .i64 0] 34)
    replace B1 := bw_trans J B1
    replace S := keep B1 S
    replace T := keep B1 T
    replace BW := bw_trans BW B1
    replace hs := hs.below B1
    clear J B1 zS fS0 fS1 fS2 fS3 zT fT0 fT1
    clear X0
    go_upto_region 5 with fail
    rw [← hW1]
    clear hW1
    obtain ⟨uS0, uS1, uS2, uS3⟩ := reg_4 S
    obtain ⟨uT0, uT1⟩ := reg_2 T
    obtain ⟨uF0, uF1⟩ := reg_2 F
    refine wp_region_quiet_below (by kernel_rfl) (by kernel_rfl) ?_
    repeat (first | go_big_quiet_step (first | (go_at_call 23; with_reducible exact Calls.regrown_of (Y0.out _)) | (go_at_call 17; with_reducible exact Calls.regrown_of (G0.out _))))
    refine wpQuiet_nil ?_
    intro _ hw'
    obtain ⟨⟨dq, osq⟩, hw''⟩ := hw'
    subst hw''
    have J := below_regrown W1 dq osq
    generalize grow (redrawn W1 dq) osq = v1 at J ⊢
    replace S := keep J S
    replace T := keep J T
    replace F := keep J F
    replace BW := bw_trans BW J
    replace hs := hs.below J
    clear J uS0 uS1 uS2 uS3 uT0 uT1 uF0 uF1
    go_upto_region 6 with fail
    obtain ⟨uS0, uS1, uS2, uS3⟩ := reg_4 S
    obtain ⟨uT0, uT1⟩ := reg_2 T
    obtain ⟨uF0, uF1⟩ := reg_2 F
    refine wp_region_quiet_below (by kernel_rfl) (by kernel_rfl) ?_
    repeat (first | go_big_quiet_step (first | (go_at_call 23; with_reducible exact Calls.regrown_of (Y0.out _))))
    refine wpQuiet_nil ?_
    intro _ hw'
    obtain ⟨⟨dq, osq⟩, hw''⟩ := hw'
    subst hw''
    have J := below_regrown v1 dq osq
    generalize grow (redrawn v1 dq) osq = v2 at J ⊢
    replace S := keep J S
    replace T := keep J T
    replace F := keep J F
    replace BW := bw_trans BW J
    replace hs := hs.below J
    clear J uS0 uS1 uS2 uS3 uT0 uT1 uF0 uF1
    go_wp2_with fail
    go_ret
    exact ⟨rfl, BW⟩
  · skip
    cases gp : ptB px py
    · have e0 : farV ax ay bx b_y px py = (0, 0) := by unfold farV; rw [gs, gp]; rfl
      have X0 := segFar_any ax ay bx b_y px py ad W hs
      have Y0 : Hid (∀ w, Calls Tryd.prog 23 #[.agg #[.int .i64 ax, .int .i64 ay, .int .i64 bx, .int .i64 b_y], .agg #[.int .i64 px, .int .i64 py]] w fun e w' => e = .returned (.agg #[.int .i64 0, .int .i64 0]) ∧ Below w.heap.size w w') := fun w => by have := sFar_any ax ay bx b_y px py w; rwa [e0] at this
      have G0 : Hid (∀ w, Calls Tryd.prog 17 #[.agg #[.int .i64 ax, .int .i64 ay, .int .i64 bx, .int .i64 b_y]] w fun e w' => e = .returned (.bool true) ∧ Below w.heap.size w w') := fun w => by have := sSeg_any ax ay bx b_y w; rwa [gs] at this
      have G1 : Hid (∀ w, Calls Tryd.prog 18 #[.agg #[.int .i64 px, .int .i64 py]] w fun e w' => e = .returned (.bool false) ∧ Below w.heap.size w w') := fun w => by have := sPt_any px py w; rwa [gp] at this
      rw [e0] at X0
      clear e0
      go_wp2_with fail
      refine (X0).mono ?_
      rintro e w1 ⟨rfl, J⟩
      obtain ⟨W1, hW1, B1, F⟩ := boxes1 w1 (.cells #[.int .i64 0, .int .i64 0] 34)
      replace B1 := bw_trans J B1
      replace S := keep B1 S
      replace T := keep B1 T
      replace BW := bw_trans BW B1
      replace hs := hs.below B1
      clear J B1 zS fS0 fS1 fS2 fS3 zT fT0 fT1
      clear X0
      go_upto_region 5 with fail
      rw [← hW1]
      clear hW1
      obtain ⟨uS0, uS1, uS2, uS3⟩ := reg_4 S
      obtain ⟨uT0, uT1⟩ := reg_2 T
      obtain ⟨uF0, uF1⟩ := reg_2 F
      refine wp_region_quiet_below (by kernel_rfl) (by kernel_rfl) ?_
      repeat (first | go_big_quiet_step (first | (go_at_call 23; with_reducible exact Calls.regrown_of (Y0.out _)) | (go_at_call 17; with_reducible exact Calls.regrown_of (G0.out _)) | (go_at_call 18; with_reducible exact Calls.regrown_of (G1.out _))))
      refine wpQuiet_nil ?_
      intro _ hw'
      obtain ⟨⟨dq, osq⟩, hw''⟩ := hw'
      subst hw''
      have J := below_regrown W1 dq osq
      generalize grow (redrawn W1 dq) osq = v1 at J ⊢
      replace S := keep J S
      replace T := keep J T
      replace F := keep J F
      replace BW := bw_trans BW J
      replace hs := hs.below J
      clear J uS0 uS1 uS2 uS3 uT0 uT1 uF0 uF1
      go_upto_region 6 with fail
      obtain ⟨uS0, uS1, uS2, uS3⟩ := reg_4 S
      obtain ⟨uT0, uT1⟩ := reg_2 T
      obtain ⟨uF0, uF1⟩ := reg_2 F
      refine wp_region_quiet_below (by kernel_rfl) (by kernel_rfl) ?_
      repeat (first | go_big_quiet_step (first | (go_at_call 23; with_reducible exact Calls.regrown_of (Y0.out _))))
      refine wpQuiet_nil ?_
      intro _ hw'
      obtain ⟨⟨dq, osq⟩, hw''⟩ := hw'
      subst hw''
      have J := below_regrown v1 dq osq
      generalize grow (redrawn v1 dq) osq = v2 at J ⊢
      replace S := keep J S
      replace T := keep J T
      replace F := keep J F
      replace BW := bw_trans BW J
      replace hs := hs.below J
      clear J uS0 uS1 uS2 uS3 uT0 uT1 uF0 uF1
      go_wp2_with fail
      go_ret
      exact ⟨rfl, BW⟩
    · skip
      obtain ⟨pa, pb, hd⟩ := sg_parts gs
      have hok := far_ok gs gp
      have X0 := segFar_ok ax ay bx b_y px py ad W hs gs gp
      have Y0 : Hid (∀ w, Calls Tryd.prog 23 #[.agg #[.int .i64 ax, .int .i64 ay, .int .i64 bx, .int .i64 b_y], .agg #[.int .i64 px, .int .i64 py]] w fun e w' => e = .returned (.agg #[.int .i64 (far ax ay bx b_y px py).1, .int .i64 (far ax ay bx b_y px py).2]) ∧ Below w.heap.size w w') := fun w => by have := sFar_any ax ay bx b_y px py w; rwa [farV_ok gs gp] at this
      have G0 : Hid (∀ w, Calls Tryd.prog 17 #[.agg #[.int .i64 ax, .int .i64 ay, .int .i64 bx, .int .i64 b_y]] w fun e w' => e = .returned (.bool true) ∧ Below w.heap.size w w') := fun w => by have := sSeg_any ax ay bx b_y w; rwa [gs] at this
      have G1 : Hid (∀ w, Calls Tryd.prog 18 #[.agg #[.int .i64 px, .int .i64 py]] w fun e w' => e = .returned (.bool true) ∧ Below w.heap.size w w') := fun w => by have := sPt_any px py w; rwa [gp] at this
      go_wp2_with fail
      refine (X0).mono ?_
      rintro e w1 ⟨rfl, J⟩
      obtain ⟨W1, hW1, B1, F⟩ := boxes1 w1 (.cells #[.int .i64 (far ax ay bx b_y px py).1, .int .i64 (far ax ay bx b_y px py).2] 34)
      replace B1 := bw_trans J B1
      replace S := keep B1 S
      replace T := keep B1 T
      replace BW := bw_trans BW B1
      replace hs := hs.below B1
      clear J B1 zS fS0 fS1 fS2 fS3 zT fT0 fT1
      clear X0
      go_upto_region 5 with fail
      rw [← hW1]
      clear hW1
      obtain ⟨uS0, uS1, uS2, uS3⟩ := reg_4 S
      obtain ⟨uT0, uT1⟩ := reg_2 T
      obtain ⟨uF0, uF1⟩ := reg_2 F
      refine wp_region_quiet_below (by kernel_rfl) (by kernel_rfl) ?_
      repeat (first | go_big_quiet_step (first | (go_at_call 23; with_reducible exact Calls.regrown_of (Y0.out _)) | (go_at_call 17; with_reducible exact Calls.regrown_of (G0.out _)) | (go_at_call 18; with_reducible exact Calls.regrown_of (G1.out _))))
      refine wpQuiet_nil ?_
      intro _ hw'
      obtain ⟨⟨dq, osq⟩, hw''⟩ := hw'
      subst hw''
      have J := below_regrown W1 dq osq
      generalize grow (redrawn W1 dq) osq = v1 at J ⊢
      replace S := keep J S
      replace T := keep J T
      replace F := keep J F
      replace BW := bw_trans BW J
      replace hs := hs.below J
      clear J uS0 uS1 uS2 uS3 uT0 uT1 uF0 uF1
      clear Y0 G0 G1
      have hp := (ptB_iff _ _).1 gp
      have hA := (ptB_iff _ _).1 pa
      have hB := (ptB_iff _ _).1 pb
      have hk1 := ptB_iff px py
      clear hk1
      have Q1 : Hid (∀ w, Calls Tryd.prog 34 #[.agg #[.int .i64 (ax+1), .int .i64 ay, .int .i64 (bx+1), .int .i64 b_y]] w fun e w' => e = .returned (.bool (sgB (ax+1) ay (bx+1) b_y)) ∧ Below w.heap.size w w') := fun w => segOk_any _ _ _ _ w
      have Q2 : Hid (∀ w, Calls Tryd.prog 35 #[.agg #[.int .i64 (px+1), .int .i64 py]] w fun e w' => e = .returned (.bool (ptB (px+1) py)) ∧ Below w.heap.size w w') := fun w => ptOk_any _ _ w
      have Q3 : Hid (sgB (ax+1) ay (bx+1) b_y = true → ptB (px+1) py = true → ∀ w, Sent ad w → Calls Tryd.prog 20 #[.agg #[.int .i64 (ax+1), .int .i64 ay, .int .i64 (bx+1), .int .i64 b_y], .agg #[.int .i64 (px+1), .int .i64 py]] w fun e w' => e = .returned (.agg #[.int .i64 (far ax ay bx b_y px py).1, .int .i64 (far ax ay bx b_y px py).2]) ∧ Below w.heap.size w w') := fun h1 h2 w hs => by have := segFar_ok (ax+1) ay (bx+1) b_y (px+1) py ad w hs h1 h2; rwa [far_shift] at this
      have Q4 : Hid (sgB (ax+1) ay (bx+1) b_y = true → ptB (px+1) py = true → ∀ w, Calls Tryd.prog 36 #[.agg #[.int .i64 (ax+1), .int .i64 ay], .agg #[.int .i64 (bx+1), .int .i64 b_y], .agg #[.int .i64 (px+1), .int .i64 py]] w fun e w' => e = .returned (.int .i64 (tn ax ay bx b_y px py)) ∧ Below w.heap.size w w') := fun h1 h2 w => by have := turn_ok (ax+1) ay (bx+1) b_y (px+1) py w (sg_parts h1).1 (sg_parts h1).2.1 h2; rwa [tn_shift] at this
      have Q5 : Hid (∀ w, Calls Tryd.prog 36 #[.agg #[.int .i64 ax, .int .i64 ay], .agg #[.int .i64 bx, .int .i64 b_y], .agg #[.int .i64 px, .int .i64 py]] w fun e w' => e = .returned (.int .i64 (tn ax ay bx b_y px py)) ∧ Below w.heap.size w w') := fun w => turn_ok ax ay bx b_y px py w pa pb gp
      have zS := blk_lt S
      obtain ⟨fS0, fS1, fS2, fS3⟩ := blk_4 S
      have zT := blk_lt T
      obtain ⟨fT0, fT1⟩ := blk_2 T
      have zF := blk_lt F
      obtain ⟨fF0, fF1⟩ := blk_2 F
      go_upto_region 9 with fail
      obtain ⟨V, hV, BV, S2, T2⟩ := boxes2 v1 (.cells #[.int .i64 (ax+1), .int .i64 ay, .int .i64 (bx+1), .int .i64 b_y] 26) (.cells #[.int .i64 (px+1), .int .i64 py] 24)
      rw [← hV]
      clear hV
      clear zS fS0 fS1 fS2 fS3 zT fT0 fT1 zF fF0 fF1
      replace S := keep BV S
      replace T := keep BV T
      replace F := keep BV F
      replace BW := bw_trans BW BV
      replace hs := hs.below BV
      clear BV
      cases h1 : sgB (ax+1) ay (bx+1) b_y
      · have R1 : Hid _ := Q1.out
        rw [h1] at Q1
        clear R1 Q2 Q3 Q4 Q5
        obtain ⟨uS0, uS1, uS2, uS3⟩ := reg_4 S
        obtain ⟨uT0, uT1⟩ := reg_2 T
        obtain ⟨uF0, uF1⟩ := reg_2 F
        obtain ⟨uS20, uS21, uS22, uS23⟩ := reg_4 S2
        obtain ⟨uT20, uT21⟩ := reg_2 T2
        refine wp_region_quiet_below (by kernel_rfl) (by kernel_rfl) ?_
        repeat (first | go_big_quiet_step (first | (go_at_call 34; with_reducible exact Calls.regrown_of (Q1.out _))))
        refine wpQuiet_nil ?_
        intro _ hw'
        obtain ⟨⟨dq, osq⟩, hw''⟩ := hw'
        subst hw''
        have J := below_regrown V dq osq
        generalize grow (redrawn V dq) osq = v2 at J ⊢
        replace S := keep J S
        replace T := keep J T
        replace F := keep J F
        replace S2 := keep J S2
        replace T2 := keep J T2
        replace BW := bw_trans BW J
        replace hs := hs.below J
        clear J uS0 uS1 uS2 uS3 uT0 uT1 uF0 uF1 uS20 uS21 uS22 uS23 uT20 uT21
        go_wp2_with fail
        go_ret
        exact ⟨rfl, BW⟩
      · skip
        rw [h1] at Q1
        cases h2 : ptB (px+1) py
        · rw [h2] at Q2
          clear Q3 Q4 Q5
          obtain ⟨uS0, uS1, uS2, uS3⟩ := reg_4 S
          obtain ⟨uT0, uT1⟩ := reg_2 T
          obtain ⟨uF0, uF1⟩ := reg_2 F
          obtain ⟨uS20, uS21, uS22, uS23⟩ := reg_4 S2
          obtain ⟨uT20, uT21⟩ := reg_2 T2
          refine wp_region_quiet_below (by kernel_rfl) (by kernel_rfl) ?_
          repeat (first | go_big_quiet_step (first | (go_at_call 34; with_reducible exact Calls.regrown_of (Q1.out _)) | (go_at_call 35; with_reducible exact Calls.regrown_of (Q2.out _))))
          refine wpQuiet_nil ?_
          intro _ hw'
          obtain ⟨⟨dq, osq⟩, hw''⟩ := hw'
          subst hw''
          have J := below_regrown V dq osq
          generalize grow (redrawn V dq) osq = v2 at J ⊢
          replace S := keep J S
          replace T := keep J T
          replace F := keep J F
          replace S2 := keep J S2
          replace T2 := keep J T2
          replace BW := bw_trans BW J
          replace hs := hs.below J
          clear J uS0 uS1 uS2 uS3 uT0 uT1 uF0 uF1 uS20 uS21 uS22 uS23 uT20 uT21
          go_wp2_with fail
          go_ret
          exact ⟨rfl, BW⟩
        · rw [h2] at Q2
          have Q3' : Hid _ := Q3.out h1 h2
          have Q4' : Hid _ := Q4.out h1 h2
          clear Q3 Q4
          generalize tn ax ay bx b_y px py = tt at *
          obtain ⟨uS0, uS1, uS2, uS3⟩ := reg_4 S
          obtain ⟨uT0, uT1⟩ := reg_2 T
          obtain ⟨uF0, uF1⟩ := reg_2 F
          obtain ⟨uS20, uS21, uS22, uS23⟩ := reg_4 S2
          obtain ⟨uT20, uT21⟩ := reg_2 T2
          refine wp_region_quiet_below (by kernel_rfl) (by kernel_rfl) ?_
          repeat (first | go_big_quiet_step (first | (go_at_call 34; with_reducible exact Calls.regrown_of (Q1.out _)) | (go_at_call 35; with_reducible exact Calls.regrown_of (Q2.out _)) | (go_at_call 20; with_reducible exact Calls.regrown_of (Q3'.out _ (hs.below (below_regrown _ _ _)))) | (go_at_call 36; with_reducible exact Calls.regrown_of (Q4'.out _)) | (go_at_call 36; with_reducible exact Calls.regrown_of (Q5.out _))))
          refine wpQuiet_nil ?_
          intro _ hw'
          obtain ⟨⟨dq, osq⟩, hw''⟩ := hw'
          subst hw''
          have J := below_regrown V dq osq
          generalize grow (redrawn V dq) osq = v2 at J ⊢
          replace S := keep J S
          replace T := keep J T
          replace F := keep J F
          replace S2 := keep J S2
          replace T2 := keep J T2
          replace BW := bw_trans BW J
          replace hs := hs.below J
          clear J uS0 uS1 uS2 uS3 uT0 uT1 uF0 uF1 uS20 uS21 uS22 uS23 uT20 uT21
          go_wp2_with fail
          go_ret
          exact ⟨rfl, BW⟩
end Go.Proofs.YtmjbfocghlhecaaDoor
