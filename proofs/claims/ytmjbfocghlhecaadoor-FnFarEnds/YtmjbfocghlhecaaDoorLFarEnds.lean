/-
  OUR OWN TEXT. The law FnFarEnds, walked: whatever bytes come in, it answers true and writes nothing that was there.
-/
import Derived.Test.YtmjbfocghlhecaaDoorDrawD
import Derived.Test.YtmjbfocghlhecaaDoorLuD
import Derived.Test.YtmjbfocghlhecaaDoorFarAny
import Derived.Test.YtmjbfocghlhecaaDoorSFar
namespace Go.Proofs.YtmjbfocghlhecaaDoor
open Go.RowKit Go.Sort

theorem cmpV_le {f g : Int × Int} (hf : okB f.1 f.2 = true) (hg : okB g.1 g.2 = true) (h : f.1 * g.2 ≤ g.1 * f.2) : cmpV f.1 f.2 g.1 g.2 ≤ 0 := by
  unfold cmpV; rw [hf, hg]; show cmpI _ _ ≤ 0; unfold cmpI; split
  · omega
  · rw [if_neg (by omega)]; omega
theorem farEnds_long (w : World) (a0 : Option Addr) (len0 cap0 : Nat) (h : 1048576 < len0) :
    Calls Tryd.prog 6 #[.slice a0 len0 cap0] w fun e w' => e = .returned (.bool true) ∧ Below w.heap.size w w' := by
  go_enter Tryd.func6, Tryd.ntmps6
  go_wp2
  go_ret
  exact ⟨rfl, bw_refl _⟩
set_option maxHeartbeats 2000000 in
theorem farEnds_walk (w : World) (a0 : Option Addr) (len0 cap0 : Nat) (z0 : List Int) (r0 : IsRow .u8 w a0 len0 cap0 z0) (ad : Addr) (hs0 : Sent ad w) :
    Calls Tryd.prog 6 #[.slice a0 len0 cap0] w fun e w' => e = .returned (.bool true) ∧ Below w.heap.size w w' := by
  by_cases hl : 1048576 < len0
  · exact farEnds_long w a0 len0 cap0 hl
  have hl0 : len0 ≤ 1048576 := by omega
  clear hl
  go_enter Tryd.func6, Tryd.ntmps6
  go_wp2_with fail
  refine (drawFar_any w _ r0 (bw_refl _)).mono ?_
  rintro e w0 ⟨ax, ay, bx, b_y, px, py, rfl, b1⟩
  obtain ⟨W, hW, BW, S, T⟩ := boxes2 w0 (.cells #[.int .i64 ax, .int .i64 ay, .int .i64 bx, .int .i64 b_y] 26) (.cells #[.int .i64 px, .int .i64 py] 24)
  replace BW := bw_trans b1 BW
  clear b1
  go_upto_region 4 with fail
  rw [← hW]
  clear hW
  have hs := hs0.below BW
  have zS := blk_lt S
  obtain ⟨fS0, fS1, fS2, fS3⟩ := blk_4 S
  have zT := blk_lt T
  obtain ⟨fT0, fT1⟩ := blk_2 T
  clear hs0
  cases gs : sgB ax ay bx b_y
  · have e0 : farV ax ay bx b_y px py = (0, 0) := by unfold farV; rw [gs]; rfl
    have X0 := segFar_any ax ay bx b_y px py ad W hs
    have Y0 : Hid (∀ w, Calls Tryd.prog 23 #[.agg #[.int .i64 ax, .int .i64 ay, .int .i64 bx, .int .i64 b_y], .agg #[.int .i64 px, .int .i64 py]] w fun e w' => e = .returned (.agg #[.int .i64 0, .int .i64 0]) ∧ Below w.heap.size w w') := fun w => by have := sFar_any ax ay bx b_y px py w; rwa [e0] at this
    have G0 : Hid (∀ w, Calls Tryd.prog 17 #[.agg #[.int .i64 ax, .int .i64 ay, .int .i64 bx, .int .i64 b_y]] w fun e w' => e = .returned (.bool false) ∧ Below w.heap.size w w') := fun w => by have := sSeg_any ax ay bx b_y w; rwa [gs] at this
    rw [e0] at X0
    clear e0
    go_wp2_with fail
    refine (X0).mono ?_
    rintro e w1 ⟨rfl, J⟩
    obtain ⟨W1, hW1, B1, F⟩ := boxes1 w1 (.cells #[.int .i64 0, .int .i64 0] 34)
    replace B1 := bw_trans J B1
    replace S := keep B1 S
    replace T := keep B1 T
    replace BW := bw_trans BW B1
    replace hs := hs.below B1
    clear J B1 zS fS0 fS1 fS2 fS3 zT fT0 fT1
    clear X0
    go_upto_region 5 with fail
    rw [← hW1]
    clear hW1
    obtain ⟨uS0, uS1, uS2, uS3⟩ := reg_4 S
    obtain ⟨uT0, uT1⟩ := reg_2 T
    obtain ⟨uF0, uF1⟩ := reg_2 F
    refine wp_region_quiet_below (by kernel_rfl) (by kernel_rfl) ?_
    repeat (first | go_big_quiet_step (first | (go_at_call 23; with_reducible exact Calls.regrown_of (Y0.out _)) | (go_at_call 17; with_reducible exact Calls.regrown_of (G0.out _))))
    refine wpQuiet_nil ?_
    intro _ hw'
    obtain ⟨⟨dq, osq⟩, hw''⟩ := hw'
    subst hw''
    have J := below_regrown W1 dq osq
    generalize grow (redrawn W1 dq) osq = v1 at J ⊢
    replace S := keep J S
    replace T := keep J T
    replace F := keep J F
    replace BW := bw_trans BW J
    replace hs := hs.below J
    clear J uS0 uS1 uS2 uS3 uT0 uT1 uF0 uF1
    go_upto_region 6 with fail
    obtain ⟨uS0, uS1, uS2, uS3⟩ := reg_4 S
    obtain ⟨uT0, uT1⟩ := reg_2 T
    obtain ⟨uF0, uF1⟩ := reg_2 F
    refine wp_region_quiet_below (by kernel_rfl) (by kernel_rfl) ?_
    repeat (first | go_big_quiet_step (first | (go_at_call 23; with_reducible exact Calls.regrown_of (Y0.out _))))
    refine wpQuiet_nil ?_
    intro _ hw'
    obtain ⟨⟨dq, osq⟩, hw''⟩ := hw'
    subst hw''
    have J := below_regrown v1 dq osq
    generalize grow (redrawn v1 dq) osq = v2 at J ⊢
    replace S := keep J S
    replace T := keep J T
    replace F := keep J F
    replace BW := bw_trans BW J
    replace hs := hs.below J
    clear J uS0 uS1 uS2 uS3 uT0 uT1 uF0 uF1
    go_wp2_with fail
    go_ret
    exact ⟨rfl, BW⟩
  · skip
    cases gp : ptB px py
    · have e0 : farV ax ay bx b_y px py = (0, 0) := by unfold farV; rw [gs, gp]; rfl
      have X0 := segFar_any ax ay bx b_y px py ad W hs
      have Y0 : Hid (∀ w, Calls Tryd.prog 23 #[.agg #[.int .i64 ax, .int .i64 ay, .int .i64 bx, .int .i64 b_y], .agg #[.int .i64 px, .int .i64 py]] w fun e w' => e = .returned (.agg #[.int .i64 0, .int .i64 0]) ∧ Below w.heap.size w w') := fun w => by have := sFar_any ax ay bx b_y px py w; rwa [e0] at this
      have G0 : Hid (∀ w, Calls Tryd.prog 17 #[.agg #[.int .i64 ax, .int .i64 ay, .int .i64 bx, .int .i64 b_y]] w fun e w' => e = .returned (.bool true) ∧ Below w.heap.size w w') := fun w => by have := sSeg_any ax ay bx b_y w; rwa [gs] at this
      have G1 : Hid (∀ w, Calls Tryd.prog 18 #[.agg #[.int .i64 px, .int .i64 py]] w fun e w' => e = .returned (.bool false) ∧ Below w.heap.size w w') := fun w => by have := sPt_any px py w; rwa [gp] at this
      rw [e0] at X0
      clear e0
      go_wp2_with fail
      refine (X0).mono ?_
      rintro e w1 ⟨rfl, J⟩
      obtain ⟨W1, hW1, B1, F⟩ := boxes1 w1 (.cells #[.int .i64 0, .int .i64 0] 34)
      replace B1 := bw_trans J B1
      replace S := keep B1 S
      replace T := keep B1 T
      replace BW := bw_trans BW B1
      replace hs := hs.below B1
      clear J B1 zS fS0 fS1 fS2 fS3 zT fT0 fT1
      clear X0
      go_upto_region 5 with fail
      rw [← hW1]
      clear hW1
      obtain ⟨uS0, uS1, uS2, uS3⟩ := reg_4 S
      obtain ⟨uT0, uT1⟩ := reg_2 T
      obtain ⟨uF0, uF1⟩ := reg_2 F
      refine wp_region_quiet_below (by kernel_rfl) (by kernel_rfl) ?_
      repeat (first | go_big_quiet_step (first | (go_at_call 23; with_reducible exact Calls.regrown_of (Y0.out _)) | (go_at_call 17; with_reducible exact Calls.regrown_of (G0.out _)) | (go_at_call 18; with_reducible exact Calls.regrown_of (G1.out _))))
      refine wpQuiet_nil ?_
      intro _ hw'
      obtain ⟨⟨dq, osq⟩, hw''⟩ := hw'
      subst hw''
      have J := below_regrown W1 dq osq
      generalize grow (redrawn W1 dq) osq = v1 at J ⊢
      replace S := keep J S
      replace T := keep J T
      replace F := keep J F
      replace BW := bw_trans BW J
      replace hs := hs.below J
      clear J uS0 uS1 uS2 uS3 uT0 uT1 uF0 uF1
      go_upto_region 6 with fail
      obtain ⟨uS0, uS1, uS2, uS3⟩ := reg_4 S
      obtain ⟨uT0, uT1⟩ := reg_2 T
      obtain ⟨uF0, uF1⟩ := reg_2 F
      refine wp_region_quiet_below (by kernel_rfl) (by kernel_rfl) ?_
      repeat (first | go_big_quiet_step (first | (go_at_call 23; with_reducible exact Calls.regrown_of (Y0.out _))))
      refine wpQuiet_nil ?_
      intro _ hw'
      obtain ⟨⟨dq, osq⟩, hw''⟩ := hw'
      subst hw''
      have J := below_regrown v1 dq osq
      generalize grow (redrawn v1 dq) osq = v2 at J ⊢
      replace S := keep J S
      replace T := keep J T
      replace F := keep J F
      replace BW := bw_trans BW J
      replace hs := hs.below J
      clear J uS0 uS1 uS2 uS3 uT0 uT1 uF0 uF1
      go_wp2_with fail
      go_ret
      exact ⟨rfl, BW⟩
    · skip
      obtain ⟨pa, pb, hd⟩ := sg_parts gs
      have hok := far_ok gs gp
      have X0 := segFar_ok ax ay bx b_y px py ad W hs gs gp
      have Y0 : Hid (∀ w, Calls Tryd.prog 23 #[.agg #[.int .i64 ax, .int .i64 ay, .int .i64 bx, .int .i64 b_y], .agg #[.int .i64 px, .int .i64 py]] w fun e w' => e = .returned (.agg #[.int .i64 (far ax ay bx b_y px py).1, .int .i64 (far ax ay bx b_y px py).2]) ∧ Below w.heap.size w w') := fun w => by have := sFar_any ax ay bx b_y px py w; rwa [farV_ok gs gp] at this
      have G0 : Hid (∀ w, Calls Tryd.prog 17 #[.agg #[.int .i64 ax, .int .i64 ay, .int .i64 bx, .int .i64 b_y]] w fun e w' => e = .returned (.bool true) ∧ Below w.heap.size w w') := fun w => by have := sSeg_any ax ay bx b_y w; rwa [gs] at this
      have G1 : Hid (∀ w, Calls Tryd.prog 18 #[.agg #[.int .i64 px, .int .i64 py]] w fun e w' => e = .returned (.bool true) ∧ Below w.heap.size w w') := fun w => by have := sPt_any px py w; rwa [gp] at this
      go_wp2_with fail
      refine (X0).mono ?_
      rintro e w1 ⟨rfl, J⟩
      obtain ⟨W1, hW1, B1, F⟩ := boxes1 w1 (.cells #[.int .i64 (far ax ay bx b_y px py).1, .int .i64 (far ax ay bx b_y px py).2] 34)
      replace B1 := bw_trans J B1
      replace S := keep B1 S
      replace T := keep B1 T
      replace BW := bw_trans BW B1
      replace hs := hs.below B1
      clear J B1 zS fS0 fS1 fS2 fS3 zT fT0 fT1
      clear X0
      go_upto_region 5 with fail
      rw [← hW1]
      clear hW1
      obtain ⟨uS0, uS1, uS2, uS3⟩ := reg_4 S
      obtain ⟨uT0, uT1⟩ := reg_2 T
      obtain ⟨uF0, uF1⟩ := reg_2 F
      refine wp_region_quiet_below (by kernel_rfl) (by kernel_rfl) ?_
      repeat (first | go_big_quiet_step (first | (go_at_call 23; with_reducible exact Calls.regrown_of (Y0.out _)) | (go_at_call 17; with_reducible exact Calls.regrown_of (G0.out _)) | (go_at_call 18; with_reducible exact Calls.regrown_of (G1.out _))))
      refine wpQuiet_nil ?_
      intro _ hw'
      obtain ⟨⟨dq, osq⟩, hw''⟩ := hw'
      subst hw''
      have J := below_regrown W1 dq osq
      generalize grow (redrawn W1 dq) osq = v1 at J ⊢
      replace S := keep J S
      replace T := keep J T
      replace F := keep J F
      replace BW := bw_trans BW J
      replace hs := hs.below J
      clear J uS0 uS1 uS2 uS3 uT0 uT1 uF0 uF1
      clear Y0 G0 G1
      have gsb : sgB bx b_y ax ay = true := by rw [sgB_back]; exact gs
      have a1 := dt_self_nonneg px py ax ay
      have a2 := dt_bd gp pa pa
      have a3 := dt_self_nonneg px py bx b_y
      have a4 := dt_bd gp pb pb
      have c1 := cmpV_le (g := (dt px py ax ay ax ay, 1)) hok (okB_one _ a1 (by omega)) (by have := far_le gs gp (m := dt px py ax ay ax ay) (b := 1) (by have := farR_first ax ay bx b_y px py hd; rw [← dt_self_back ax ay px py] at this; omega); exact this)
      have c2 := cmpV_le (g := (dt px py bx b_y bx b_y, 1)) hok (okB_one _ a3 (by omega)) (by have := far_le gs gp (m := dt px py bx b_y bx b_y) (b := 1) (by have := farR_last ax ay bx b_y px py hd; rw [← dt_self_back bx b_y px py] at this; omega); exact this)
      have Q0 : Hid (∀ w, Sent ad w → Calls Tryd.prog 30 #[.agg #[.int .i64 (far ax ay bx b_y px py).1, .int .i64 (far ax ay bx b_y px py).2]] w fun e w' => e = .returned (.bool true) ∧ Below w.heap.size w w') := fun w hs => by have := fracOk_any (far ax ay bx b_y px py).1 (far ax ay bx b_y px py).2 ad w hs; rwa [hok] at this
      have Q3 : Hid (∀ w, Calls Tryd.prog 33 #[.agg #[.int .i64 ax, .int .i64 ay, .int .i64 bx, .int .i64 b_y]] w fun e w' => e = .returned (.agg #[.int .i64 bx, .int .i64 b_y, .int .i64 ax, .int .i64 ay]) ∧ Below w.heap.size w w') := fun w => luBack_any _ _ _ _ w
      have Q4 : Hid (∀ w, Sent ad w → Calls Tryd.prog 20 #[.agg #[.int .i64 bx, .int .i64 b_y, .int .i64 ax, .int .i64 ay], .agg #[.int .i64 px, .int .i64 py]] w fun e w' => e = .returned (.agg #[.int .i64 (far ax ay bx b_y px py).1, .int .i64 (far ax ay bx b_y px py).2]) ∧ Below w.heap.size w w') := fun w hs => by have := segFar_ok bx b_y ax ay px py ad w hs gsb gp; rwa [far_back px py hd] at this
      obtain ⟨o1, o2⟩ := of_one _ a1 (by omega : dt px py ax ay ax ay ≤ 99999)
      obtain ⟨o3, o4⟩ := of_one _ a3 (by omega : dt px py bx b_y bx b_y ≤ 99999)
      have zS := blk_lt S
      obtain ⟨fS0, fS1, fS2, fS3⟩ := blk_4 S
      have zT := blk_lt T
      obtain ⟨fT0, fT1⟩ := blk_2 T
      have zF := blk_lt F
      obtain ⟨fF0, fF1⟩ := blk_2 F
      go_wp2_with fail
      refine (luSq_ok ax ay px py _ pa gp).mono ?_
      rintro e v2 ⟨rfl, J⟩
      replace S := keep J S
      replace T := keep J T
      replace F := keep J F
      replace BW := bw_trans BW J
      replace hs := hs.below J
      clear J
      clear zS fS0 fS1 fS2 fS3 zT fT0 fT1 zF fF0 fF1
      have zS := blk_lt S
      obtain ⟨fS0, fS1, fS2, fS3⟩ := blk_4 S
      have zT := blk_lt T
      obtain ⟨fT0, fT1⟩ := blk_2 T
      have zF := blk_lt F
      obtain ⟨fF0, fF1⟩ := blk_2 F
      go_wp2_with fail
      refine (fracOf_any _ _ ad _ hs).mono ?_
      rw [o1, o2]
      rintro e v3 ⟨rfl, J⟩
      obtain ⟨V3, hV3, B1, A1⟩ := boxes1 v3 (.cells #[.int .i64 (dt px py ax ay ax ay), .int .i64 1] 34)
      replace J := bw_trans J B1
      clear B1
      replace S := keep J S
      replace T := keep J T
      replace F := keep J F
      replace BW := bw_trans BW J
      replace hs := hs.below J
      clear J
      clear zS fS0 fS1 fS2 fS3 zT fT0 fT1 zF fF0 fF1
      go_upto_region 8 with fail
      rw [← hV3]
      clear hV3
      have zS := blk_lt S
      obtain ⟨fS0, fS1, fS2, fS3⟩ := blk_4 S
      have zT := blk_lt T
      obtain ⟨fT0, fT1⟩ := blk_2 T
      have zF := blk_lt F
      obtain ⟨fF0, fF1⟩ := blk_2 F
      have zA1 := blk_lt A1
      obtain ⟨fA10, fA11⟩ := blk_2 A1
      go_wp2_with fail
      refine (luSq_ok bx b_y px py _ pb gp).mono ?_
      rintro e v4 ⟨rfl, J⟩
      replace S := keep J S
      replace T := keep J T
      replace F := keep J F
      replace A1 := keep J A1
      replace BW := bw_trans BW J
      replace hs := hs.below J
      clear J
      clear zS fS0 fS1 fS2 fS3 zT fT0 fT1 zF fF0 fF1 zA1 fA10 fA11
      have zS := blk_lt S
      obtain ⟨fS0, fS1, fS2, fS3⟩ := blk_4 S
      have zT := blk_lt T
      obtain ⟨fT0, fT1⟩ := blk_2 T
      have zF := blk_lt F
      obtain ⟨fF0, fF1⟩ := blk_2 F
      have zA1 := blk_lt A1
      obtain ⟨fA10, fA11⟩ := blk_2 A1
      go_wp2_with fail
      refine (fracOf_any _ _ ad _ hs).mono ?_
      rw [o3, o4]
      rintro e v5 ⟨rfl, J⟩
      obtain ⟨V5, hV5, B1, A2⟩ := boxes1 v5 (.cells #[.int .i64 (dt px py bx b_y bx b_y), .int .i64 1] 34)
      replace J := bw_trans J B1
      clear B1
      replace S := keep J S
      replace T := keep J T
      replace F := keep J F
      replace A1 := keep J A1
      replace BW := bw_trans BW J
      replace hs := hs.below J
      clear J
      clear zS fS0 fS1 fS2 fS3 zT fT0 fT1 zF fF0 fF1 zA1 fA10 fA11
      go_upto_region 9 with fail
      rw [← hV5]
      clear hV5
      have Q1 : Hid (∀ w, Sent ad w → Calls Tryd.prog 32 #[.agg #[.int .i64 (far ax ay bx b_y px py).1, .int .i64 (far ax ay bx b_y px py).2], .agg #[.int .i64 (dt px py ax ay ax ay), .int .i64 1]] w fun e w' => e = .returned (.int .i64 (cmpV (far ax ay bx b_y px py).1 (far ax ay bx b_y px py).2 (dt px py ax ay ax ay) 1)) ∧ Below w.heap.size w w') := fun w hs => fracCmp_any _ _ _ _ ad w hs
      have Q2 : Hid (∀ w, Sent ad w → Calls Tryd.prog 32 #[.agg #[.int .i64 (far ax ay bx b_y px py).1, .int .i64 (far ax ay bx b_y px py).2], .agg #[.int .i64 (dt px py bx b_y bx b_y), .int .i64 1]] w fun e w' => e = .returned (.int .i64 (cmpV (far ax ay bx b_y px py).1 (far ax ay bx b_y px py).2 (dt px py bx b_y bx b_y) 1)) ∧ Below w.heap.size w w') := fun w hs => fracCmp_any _ _ _ _ ad w hs
      generalize cmpV (far ax ay bx b_y px py).1 (far ax ay bx b_y px py).2 (dt px py ax ay ax ay) 1 = k1 at *
      generalize cmpV (far ax ay bx b_y px py).1 (far ax ay bx b_y px py).2 (dt px py bx b_y bx b_y) 1 = k2 at *
      clear a1 a2 a3 a4 o1 o2 o3 o4 hok hd gsb pa pb gs gp
      obtain ⟨uS0, uS1, uS2, uS3⟩ := reg_4 S
      obtain ⟨uT0, uT1⟩ := reg_2 T
      obtain ⟨uF0, uF1⟩ := reg_2 F
      obtain ⟨uA10, uA11⟩ := reg_2 A1
      obtain ⟨uA20, uA21⟩ := reg_2 A2
      refine wp_region_quiet_below (by kernel_rfl) (by kernel_rfl) ?_
      repeat (first | go_big_quiet_step (first | (go_at_call 32; with_reducible exact Calls.regrown_of (Q1.out _ (hs.below (below_regrown _ _ _)))) | (go_at_call 32; with_reducible exact Calls.regrown_of (Q2.out _ (hs.below (below_regrown _ _ _)))) | (go_at_call 30; with_reducible exact Calls.regrown_of (Q0.out _ (hs.below (below_regrown _ _ _)))) | (go_at_call 33; with_reducible exact Calls.regrown_of (Q3.out _)) | (go_at_call 20; with_reducible exact Calls.regrown_of (Q4.out _ (hs.below (below_regrown _ _ _))))))
      refine wpQuiet_nil ?_
      intro _ hw'
      obtain ⟨⟨dq, osq⟩, hw''⟩ := hw'
      subst hw''
      have J := below_regrown V5 dq osq
      generalize grow (redrawn V5 dq) osq = v6 at J ⊢
      replace S := keep J S
      replace T := keep J T
      replace F := keep J F
      replace A1 := keep J A1
      replace A2 := keep J A2
      replace BW := bw_trans BW J
      replace hs := hs.below J
      clear J uS0 uS1 uS2 uS3 uT0 uT1 uF0 uF1 uA10 uA11 uA20 uA21
      go_wp2_with fail
      go_ret
      exact ⟨rfl, BW⟩
end Go.Proofs.YtmjbfocghlhecaaDoor
