/-
  OUR OWN TEXT. The law FnMeetApart, walked: whatever bytes come in, it answers true and writes nothing that was there.
-/
import Derived.Test.YtmjbfocghlhecaaDoorDrawD
import Derived.Test.YtmjbfocghlhecaaDoorLuD
import Derived.Test.YtmjbfocghlhecaaDoorSApart
import Derived.Test.YtmjbfocghlhecaaDoorGeoParts
namespace Go.Proofs.YtmjbfocghlhecaaDoor
open Go.RowKit Go.Sort

theorem meetApart_long (w : World) (a0 : Option Addr) (len0 cap0 : Nat) (h : 1048576 < len0) :
    Calls Tryd.prog 5 #[.slice a0 len0 cap0] w fun e w' => e = .returned (.bool true) ∧ Below w.heap.size w w' := by
  go_enter Tryd.func5, Tryd.ntmps5
  go_wp2
  go_ret
  exact ⟨rfl, bw_refl _⟩
set_option maxHeartbeats 2000000 in
theorem meetApart_walk (w : World) (a0 : Option Addr) (len0 cap0 : Nat) (z0 : List Int) (r0 : IsRow .u8 w a0 len0 cap0 z0) (ad : Addr) (hs0 : Sent ad w) :
    Calls Tryd.prog 5 #[.slice a0 len0 cap0] w fun e w' => e = .returned (.bool true) ∧ Below w.heap.size w w' := by
  by_cases hl : 1048576 < len0
  · exact meetApart_long w a0 len0 cap0 hl
  have hl0 : len0 ≤ 1048576 := by omega
  clear hl
  go_enter Tryd.func5, Tryd.ntmps5
  go_wp2_with fail
  refine (drawApart_any w _ r0 (bw_refl _)).mono ?_
  rintro e w0 ⟨ax, ay, bx, b_y, cx, cy, ex, ey, rfl, b1⟩
  obtain ⟨W, hW, BW, S, T⟩ := boxes2 w0 (.cells #[.int .i64 ax, .int .i64 ay, .int .i64 bx, .int .i64 b_y] 26) (.cells #[.int .i64 cx, .int .i64 cy, .int .i64 ex, .int .i64 ey] 26)
  replace BW := bw_trans b1 BW
  clear b1
  go_upto_region 4 with fail
  rw [← hW]
  clear hW
  have hs := hs0.below BW
  have zS := blk_lt S
  obtain ⟨fS0, fS1, fS2, fS3⟩ := blk_4 S
  have zT := blk_lt T
  obtain ⟨fT0, fT1, fT2, fT3⟩ := blk_4 T
  clear hs0
  cases gs : sgB ax ay bx b_y
  · have e0 : apartV ax ay bx b_y cx cy ex ey = (0, 0) := by unfold apartV; rw [gs]; rfl
    have X0 := segApart_any ax ay bx b_y cx cy ex ey ad W hs
    have Y0 : Hid (∀ w, Calls Tryd.prog 28 #[.agg #[.int .i64 ax, .int .i64 ay, .int .i64 bx, .int .i64 b_y], .agg #[.int .i64 cx, .int .i64 cy, .int .i64 ex, .int .i64 ey]] w fun e w' => e = .returned (.agg #[.int .i64 0, .int .i64 0]) ∧ Below w.heap.size w w') := fun w => by have := sApart_any ax ay bx b_y cx cy ex ey w; rwa [e0] at this
    have G0 : Hid (∀ w, Calls Tryd.prog 17 #[.agg #[.int .i64 ax, .int .i64 ay, .int .i64 bx, .int .i64 b_y]] w fun e w' => e = .returned (.bool false) ∧ Below w.heap.size w w') := fun w => by have := sSeg_any ax ay bx b_y w; rwa [gs] at this
    rw [e0] at X0
    clear e0
    go_wp2_with fail
    refine (X0).mono ?_
    rintro e w1 ⟨rfl, J⟩
    obtain ⟨W1, hW1, B1, F⟩ := boxes1 w1 (.cells #[.int .i64 0, .int .i64 0] 34)
    replace B1 := bw_trans J B1
    replace S := keep B1 S
    replace T := keep B1 T
    replace BW := bw_trans BW B1
    replace hs := hs.below B1
    clear J B1 zS fS0 fS1 fS2 fS3 zT fT0 fT1 fT2 fT3
    clear X0
    go_upto_region 5 with fail
    rw [← hW1]
    clear hW1
    obtain ⟨uS0, uS1, uS2, uS3⟩ := reg_4 S
    obtain ⟨uT0, uT1, uT2, uT3⟩ := reg_4 T
    obtain ⟨uF0, uF1⟩ := reg_2 F
    refine wp_region_quiet_below (by kernel_rfl) (by kernel_rfl) ?_
    repeat (first | go_big_quiet_step (first | (go_at_call 28; with_reducible exact Calls.regrown_of (Y0.out _)) | (go_at_call 17; with_reducible exact Calls.regrown_of (G0.out _))))
    refine wpQuiet_nil ?_
    intro _ hw'
    obtain ⟨⟨dq, osq⟩, hw''⟩ := hw'
    subst hw''
    have J := below_regrown W1 dq osq
    generalize grow (redrawn W1 dq) osq = v1 at J ⊢
    replace S := keep J S
    replace T := keep J T
    replace F := keep J F
    replace BW := bw_trans BW J
    replace hs := hs.below J
    clear J uS0 uS1 uS2 uS3 uT0 uT1 uT2 uT3 uF0 uF1
    go_upto_region 6 with fail
    obtain ⟨uS0, uS1, uS2, uS3⟩ := reg_4 S
    obtain ⟨uT0, uT1, uT2, uT3⟩ := reg_4 T
    obtain ⟨uF0, uF1⟩ := reg_2 F
    refine wp_region_quiet_below (by kernel_rfl) (by kernel_rfl) ?_
    repeat (first | go_big_quiet_step (first | (go_at_call 28; with_reducible exact Calls.regrown_of (Y0.out _))))
    refine wpQuiet_nil ?_
    intro _ hw'
    obtain ⟨⟨dq, osq⟩, hw''⟩ := hw'
    subst hw''
    have J := below_regrown v1 dq osq
    generalize grow (redrawn v1 dq) osq = v2 at J ⊢
    replace S := keep J S
    replace T := keep J T
    replace F := keep J F
    replace BW := bw_trans BW J
    replace hs := hs.below J
    clear J uS0 uS1 uS2 uS3 uT0 uT1 uT2 uT3 uF0 uF1
    go_wp2_with fail
    go_ret
    exact ⟨rfl, BW⟩
  · skip
    cases gt : sgB cx cy ex ey
    · have e0 : apartV ax ay bx b_y cx cy ex ey = (0, 0) := by unfold apartV; rw [gs, gt]; rfl
      have X0 := segApart_any ax ay bx b_y cx cy ex ey ad W hs
      have Y0 : Hid (∀ w, Calls Tryd.prog 28 #[.agg #[.int .i64 ax, .int .i64 ay, .int .i64 bx, .int .i64 b_y], .agg #[.int .i64 cx, .int .i64 cy, .int .i64 ex, .int .i64 ey]] w fun e w' => e = .returned (.agg #[.int .i64 0, .int .i64 0]) ∧ Below w.heap.size w w') := fun w => by have := sApart_any ax ay bx b_y cx cy ex ey w; rwa [e0] at this
      have G0 : Hid (∀ w, Calls Tryd.prog 17 #[.agg #[.int .i64 ax, .int .i64 ay, .int .i64 bx, .int .i64 b_y]] w fun e w' => e = .returned (.bool true) ∧ Below w.heap.size w w') := fun w => by have := sSeg_any ax ay bx b_y w; rwa [gs] at this
      have G1 : Hid (∀ w, Calls Tryd.prog 17 #[.agg #[.int .i64 cx, .int .i64 cy, .int .i64 ex, .int .i64 ey]] w fun e w' => e = .returned (.bool false) ∧ Below w.heap.size w w') := fun w => by have := sSeg_any cx cy ex ey w; rwa [gt] at this
      rw [e0] at X0
      clear e0
      go_wp2_with fail
      refine (X0).mono ?_
      rintro e w1 ⟨rfl, J⟩
      obtain ⟨W1, hW1, B1, F⟩ := boxes1 w1 (.cells #[.int .i64 0, .int .i64 0] 34)
      replace B1 := bw_trans J B1
      replace S := keep B1 S
      replace T := keep B1 T
      replace BW := bw_trans BW B1
      replace hs := hs.below B1
      clear J B1 zS fS0 fS1 fS2 fS3 zT fT0 fT1 fT2 fT3
      clear X0
      go_upto_region 5 with fail
      rw [← hW1]
      clear hW1
      obtain ⟨uS0, uS1, uS2, uS3⟩ := reg_4 S
      obtain ⟨uT0, uT1, uT2, uT3⟩ := reg_4 T
      obtain ⟨uF0, uF1⟩ := reg_2 F
      refine wp_region_quiet_below (by kernel_rfl) (by kernel_rfl) ?_
      repeat (first | go_big_quiet_step (first | (go_at_call 28; with_reducible exact Calls.regrown_of (Y0.out _)) | (go_at_call 17; with_reducible exact Calls.regrown_of (G0.out _)) | (go_at_call 17; with_reducible exact Calls.regrown_of (G1.out _))))
      refine wpQuiet_nil ?_
      intro _ hw'
      obtain ⟨⟨dq, osq⟩, hw''⟩ := hw'
      subst hw''
      have J := below_regrown W1 dq osq
      generalize grow (redrawn W1 dq) osq = v1 at J ⊢
      replace S := keep J S
      replace T := keep J T
      replace F := keep J F
      replace BW := bw_trans BW J
      replace hs := hs.below J
      clear J uS0 uS1 uS2 uS3 uT0 uT1 uT2 uT3 uF0 uF1
      go_upto_region 6 with fail
      obtain ⟨uS0, uS1, uS2, uS3⟩ := reg_4 S
      obtain ⟨uT0, uT1, uT2, uT3⟩ := reg_4 T
      obtain ⟨uF0, uF1⟩ := reg_2 F
      refine wp_region_quiet_below (by kernel_rfl) (by kernel_rfl) ?_
      repeat (first | go_big_quiet_step (first | (go_at_call 28; with_reducible exact Calls.regrown_of (Y0.out _))))
      refine wpQuiet_nil ?_
      intro _ hw'
      obtain ⟨⟨dq, osq⟩, hw''⟩ := hw'
      subst hw''
      have J := below_regrown v1 dq osq
      generalize grow (redrawn v1 dq) osq = v2 at J ⊢
      replace S := keep J S
      replace T := keep J T
      replace F := keep J F
      replace BW := bw_trans BW J
      replace hs := hs.below J
      clear J uS0 uS1 uS2 uS3 uT0 uT1 uT2 uT3 uF0 uF1
      go_wp2_with fail
      go_ret
      exact ⟨rfl, BW⟩
    · skip
      obtain ⟨pa, pb, hd⟩ := sg_parts gs
      obtain ⟨pc, pd, hd2⟩ := sg_parts gt
      have hok := apart_ok gs gt
      have X0 := segApart_ok ax ay bx b_y cx cy ex ey ad W hs gs gt
      have Y0 : Hid (∀ w, Calls Tryd.prog 28 #[.agg #[.int .i64 ax, .int .i64 ay, .int .i64 bx, .int .i64 b_y], .agg #[.int .i64 cx, .int .i64 cy, .int .i64 ex, .int .i64 ey]] w fun e w' => e = .returned (.agg #[.int .i64 (apart ax ay bx b_y cx cy ex ey).1, .int .i64 (apart ax ay bx b_y cx cy ex ey).2]) ∧ Below w.heap.size w w') := fun w => by have := sApart_any ax ay bx b_y cx cy ex ey w; rwa [apartV_ok gs gt] at this
      have G0 : Hid (∀ w, Calls Tryd.prog 17 #[.agg #[.int .i64 ax, .int .i64 ay, .int .i64 bx, .int .i64 b_y]] w fun e w' => e = .returned (.bool true) ∧ Below w.heap.size w w') := fun w => by have := sSeg_any ax ay bx b_y w; rwa [gs] at this
      have G1 : Hid (∀ w, Calls Tryd.prog 17 #[.agg #[.int .i64 cx, .int .i64 cy, .int .i64 ex, .int .i64 ey]] w fun e w' => e = .returned (.bool true) ∧ Below w.heap.size w w') := fun w => by have := sSeg_any cx cy ex ey w; rwa [gt] at this
      go_wp2_with fail
      refine (X0).mono ?_
      rintro e w1 ⟨rfl, J⟩
      obtain ⟨W1, hW1, B1, F⟩ := boxes1 w1 (.cells #[.int .i64 (apart ax ay bx b_y cx cy ex ey).1, .int .i64 (apart ax ay bx b_y cx cy ex ey).2] 34)
      replace B1 := bw_trans J B1
      replace S := keep B1 S
      replace T := keep B1 T
      replace BW := bw_trans BW B1
      replace hs := hs.below B1
      clear J B1 zS fS0 fS1 fS2 fS3 zT fT0 fT1 fT2 fT3
      clear X0
      go_upto_region 5 with fail
      rw [← hW1]
      clear hW1
      obtain ⟨uS0, uS1, uS2, uS3⟩ := reg_4 S
      obtain ⟨uT0, uT1, uT2, uT3⟩ := reg_4 T
      obtain ⟨uF0, uF1⟩ := reg_2 F
      refine wp_region_quiet_below (by kernel_rfl) (by kernel_rfl) ?_
      repeat (first | go_big_quiet_step (first | (go_at_call 28; with_reducible exact Calls.regrown_of (Y0.out _)) | (go_at_call 17; with_reducible exact Calls.regrown_of (G0.out _)) | (go_at_call 17; with_reducible exact Calls.regrown_of (G1.out _))))
      refine wpQuiet_nil ?_
      intro _ hw'
      obtain ⟨⟨dq, osq⟩, hw''⟩ := hw'
      subst hw''
      have J := below_regrown W1 dq osq
      generalize grow (redrawn W1 dq) osq = v1 at J ⊢
      replace S := keep J S
      replace T := keep J T
      replace F := keep J F
      replace BW := bw_trans BW J
      replace hs := hs.below J
      clear J uS0 uS1 uS2 uS3 uT0 uT1 uT2 uT3 uF0 uF1
      clear Y0 G0 G1
      have hz : zeroB (apart ax ay bx b_y cx cy ex ey) = meetC ax ay bx b_y cx cy ex ey := by rw [Bool.eq_iff_iff]; unfold zeroB; rw [decide_eq_true_iff]; exact apart_zero gs gt
      have gsm : sgB (9-ax) ay (9-bx) b_y = true := by rw [sgB_iff] at *; omega
      have gtm : sgB (9-cx) cy (9-ex) ey = true := by rw [sgB_iff] at *; omega
      have gsw : sgB ay ax b_y bx = true := by rw [sgB_iff] at *; omega
      have gtw : sgB cy cx ey ex = true := by rw [sgB_iff] at *; omega
      have Q1 : Hid (∀ w, Calls Tryd.prog 19 #[.agg #[.int .i64 (apart ax ay bx b_y cx cy ex ey).1, .int .i64 (apart ax ay bx b_y cx cy ex ey).2]] w fun e w' => e = .returned (.bool (meetC ax ay bx b_y cx cy ex ey)) ∧ Below w.heap.size w w') := fun w => by have := luZero_any (apart ax ay bx b_y cx cy ex ey) w; rwa [hz] at this
      have Q2 : Hid (∀ w, Calls Tryd.prog 29 #[.agg #[.int .i64 ax, .int .i64 ay, .int .i64 bx, .int .i64 b_y], .agg #[.int .i64 cx, .int .i64 cy, .int .i64 ex, .int .i64 ey]] w fun e w' => e = .returned (.bool (meetC ax ay bx b_y cx cy ex ey)) ∧ Below w.heap.size w w') := fun w => meet_ok _ _ _ _ _ _ _ _ w gs gt
      have Q3 : Hid (∀ w, Sent ad w → Calls Tryd.prog 27 #[.agg #[.int .i64 cx, .int .i64 cy, .int .i64 ex, .int .i64 ey], .agg #[.int .i64 ax, .int .i64 ay, .int .i64 bx, .int .i64 b_y]] w fun e w' => e = .returned (.agg #[.int .i64 (apart ax ay bx b_y cx cy ex ey).1, .int .i64 (apart ax ay bx b_y cx cy ex ey).2]) ∧ Below w.heap.size w w') := fun w hs => by have := segApart_ok cx cy ex ey ax ay bx b_y ad w hs gt gs; rwa [apart_comm gs gt] at this
      have Q4 : Hid (∀ w, Calls Tryd.prog 24 #[.agg #[.int .i64 ax, .int .i64 ay, .int .i64 bx, .int .i64 b_y], .bool false] w fun e w' => e = .returned (.agg #[.int .i64 (9-ax), .int .i64 ay, .int .i64 (9-bx), .int .i64 b_y]) ∧ Below w.heap.size w w') := fun w => luSeg_mir _ _ _ _ w gs
      have Q5 : Hid (∀ w, Calls Tryd.prog 24 #[.agg #[.int .i64 cx, .int .i64 cy, .int .i64 ex, .int .i64 ey], .bool false] w fun e w' => e = .returned (.agg #[.int .i64 (9-cx), .int .i64 cy, .int .i64 (9-ex), .int .i64 ey]) ∧ Below w.heap.size w w') := fun w => luSeg_mir _ _ _ _ w gt
      have Q6 : Hid (∀ w, Sent ad w → Calls Tryd.prog 27 #[.agg #[.int .i64 (9-ax), .int .i64 ay, .int .i64 (9-bx), .int .i64 b_y], .agg #[.int .i64 (9-cx), .int .i64 cy, .int .i64 (9-ex), .int .i64 ey]] w fun e w' => e = .returned (.agg #[.int .i64 (apart ax ay bx b_y cx cy ex ey).1, .int .i64 (apart ax ay bx b_y cx cy ex ey).2]) ∧ Below w.heap.size w w') := fun w hs => by have := segApart_ok (9-ax) ay (9-bx) b_y (9-cx) cy (9-ex) ey ad w hs gsm gtm; rwa [apart_mir] at this
      have Q7 : Hid (∀ w, Calls Tryd.prog 24 #[.agg #[.int .i64 ax, .int .i64 ay, .int .i64 bx, .int .i64 b_y], .bool true] w fun e w' => e = .returned (.agg #[.int .i64 ay, .int .i64 ax, .int .i64 b_y, .int .i64 bx]) ∧ Below w.heap.size w w') := fun w => luSeg_swap _ _ _ _ w
      have Q8 : Hid (∀ w, Calls Tryd.prog 24 #[.agg #[.int .i64 cx, .int .i64 cy, .int .i64 ex, .int .i64 ey], .bool true] w fun e w' => e = .returned (.agg #[.int .i64 cy, .int .i64 cx, .int .i64 ey, .int .i64 ex]) ∧ Below w.heap.size w w') := fun w => luSeg_swap _ _ _ _ w
      have Q9 : Hid (∀ w, Sent ad w → Calls Tryd.prog 27 #[.agg #[.int .i64 ay, .int .i64 ax, .int .i64 b_y, .int .i64 bx], .agg #[.int .i64 cy, .int .i64 cx, .int .i64 ey, .int .i64 ex]] w fun e w' => e = .returned (.agg #[.int .i64 (apart ax ay bx b_y cx cy ex ey).1, .int .i64 (apart ax ay bx b_y cx cy ex ey).2]) ∧ Below w.heap.size w w') := fun w hs => by have := segApart_ok ay ax b_y bx cy cx ey ex ad w hs gsw gtw; rwa [apart_swap ax ay] at this
      have Q0 : Hid (∀ w, Sent ad w → Calls Tryd.prog 30 #[.agg #[.int .i64 (apart ax ay bx b_y cx cy ex ey).1, .int .i64 (apart ax ay bx b_y cx cy ex ey).2]] w fun e w' => e = .returned (.bool true) ∧ Below w.heap.size w w') := fun w hs => by have := fracOk_any (apart ax ay bx b_y cx cy ex ey).1 (apart ax ay bx b_y cx cy ex ey).2 ad w hs; rwa [hok] at this
      generalize meetC ax ay bx b_y cx cy ex ey = mm at *
      clear hz gsm gtm gsw gtw hok hd hd2 pa pb pc pd gs gt
      go_upto_region 7 with fail
      have heq : (mm == mm) = true := by simp
      obtain ⟨uS0, uS1, uS2, uS3⟩ := reg_4 S
      obtain ⟨uT0, uT1, uT2, uT3⟩ := reg_4 T
      obtain ⟨uF0, uF1⟩ := reg_2 F
      refine wp_region_quiet_below (by kernel_rfl) (by kernel_rfl) ?_
      repeat (first | go_big_quiet_step (first | (go_at_call 19; with_reducible exact Calls.regrown_of (Q1.out _)) | (go_at_call 29; with_reducible exact Calls.regrown_of (Q2.out _)) | (go_at_call 24; with_reducible exact Calls.regrown_of (Q4.out _)) | (go_at_call 24; with_reducible exact Calls.regrown_of (Q5.out _)) | (go_at_call 24; with_reducible exact Calls.regrown_of (Q7.out _)) | (go_at_call 24; with_reducible exact Calls.regrown_of (Q8.out _)) | (go_at_call 27; with_reducible exact Calls.regrown_of (Q3.out _ (hs.below (below_regrown _ _ _)))) | (go_at_call 27; with_reducible exact Calls.regrown_of (Q6.out _ (hs.below (below_regrown _ _ _)))) | (go_at_call 27; with_reducible exact Calls.regrown_of (Q9.out _ (hs.below (below_regrown _ _ _)))) | (go_at_call 30; with_reducible exact Calls.regrown_of (Q0.out _ (hs.below (below_regrown _ _ _))))))
      refine wpQuiet_nil ?_
      intro _ hw'
      obtain ⟨⟨dq, osq⟩, hw''⟩ := hw'
      subst hw''
      have J := below_regrown v1 dq osq
      generalize grow (redrawn v1 dq) osq = v2 at J ⊢
      replace S := keep J S
      replace T := keep J T
      replace F := keep J F
      replace BW := bw_trans BW J
      replace hs := hs.below J
      clear J uS0 uS1 uS2 uS3 uT0 uT1 uT2 uT3 uF0 uF1
      go_wp2_with fail
      go_ret
      exact ⟨rfl, BW⟩
end Go.Proofs.YtmjbfocghlhecaaDoor
