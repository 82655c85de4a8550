/-
  OUR OWN TEXT. The law FnHasFar, walked: whatever bytes come in, it answers true and writes nothing that was there.
-/
import Derived.Test.YtmjbfocghlhecaaDoorDrawD
import Derived.Test.YtmjbfocghlhecaaDoorLuD
import Derived.Test.YtmjbfocghlhecaaDoorFarAny
import Derived.Test.YtmjbfocghlhecaaDoorSFar
namespace Go.Proofs.YtmjbfocghlhecaaDoor
open Go.RowKit Go.Sort

theorem hasFar_long (w : World) (a0 : Option Addr) (len0 cap0 : Nat) (h : 1048576 < len0) :
    Calls Tryd.prog 3 #[.slice a0 len0 cap0] w fun e w' => e = .returned (.bool true) ∧ Below w.heap.size w w' := by
  go_enter Tryd.func3, Tryd.ntmps3
  go_wp2
  go_ret
  exact ⟨rfl, bw_refl _⟩
set_option maxHeartbeats 2000000 in
theorem hasFar_walk (w : World) (a0 : Option Addr) (len0 cap0 : Nat) (z0 : List Int) (r0 : IsRow .u8 w a0 len0 cap0 z0) (ad : Addr) (hs0 : Sent ad w) :
    Calls Tryd.prog 3 #[.slice a0 len0 cap0] w fun e w' => e = .returned (.bool true) ∧ Below w.heap.size w w' := by
  by_cases hl : 1048576 < len0
  · exact hasFar_long w a0 len0 cap0 hl
  have hl0 : len0 ≤ 1048576 := by omega
  clear hl
  go_enter Tryd.func3, Tryd.ntmps3
  go_wp2_with fail
  refine (drawHas_any w _ r0 (bw_refl _)).mono ?_
  rintro e w0 ⟨ax, ay, bx, b_y, px, py, rfl, b1⟩
  obtain ⟨W, hW, BW, S, T⟩ := boxes2 w0 (.cells #[.int .i64 ax, .int .i64 ay, .int .i64 bx, .int .i64 b_y] 26) (.cells #[.int .i64 px, .int .i64 py] 24)
  replace BW := bw_trans b1 BW
  clear b1
  go_upto_region 4 with fail
  rw [← hW]
  clear hW
  have hs := hs0.below BW
  have zS := blk_lt S
  obtain ⟨fS0, fS1, fS2, fS3⟩ := blk_4 S
  have zT := blk_lt T
  obtain ⟨fT0, fT1⟩ := blk_2 T
  clear hs0
  cases gs : sgB ax ay bx b_y
  · have e0 : hasV ax ay bx b_y px py = false := by unfold hasV; rw [gs]; rfl
    go_wp2_with fail
    refine (has_any _ _ _ _ _ _ _).mono ?_
    rw [e0]
    rintro e w1 ⟨rfl, J⟩
    obtain ⟨hc, hf⟩ := bcell J
    go_wp2_with fail
    refine (sHas_any _ _ _ _ _ _ _).mono ?_
    rw [e0]
    rintro e w1 ⟨rfl, J2⟩
    replace J := bw_trans J J2
    clear hc hf J2
    obtain ⟨hc, hf⟩ := bcell J
    go_wp2_with fail
    refine (sSeg_any _ _ _ _ _).mono ?_
    rw [gs]
    rintro e w1 ⟨rfl, J2⟩
    replace J := bw_trans J J2
    clear hc hf J2
    obtain ⟨hc, hf⟩ := bcell J
    go_wp2_with fail
    refine (sHas_any _ _ _ _ _ _ _).mono ?_
    rw [e0]
    rintro e w1 ⟨rfl, J2⟩
    replace J := bw_trans J J2
    clear hc hf J2
    obtain ⟨hc, hf⟩ := bcell J
    go_wp2_with fail
    go_ret
    exact ⟨rfl, bw_trans BW J⟩
  · skip
    cases gp : ptB px py
    · have e0 : hasV ax ay bx b_y px py = false := by unfold hasV; rw [gs, gp]; rfl
      go_wp2_with fail
      refine (has_any _ _ _ _ _ _ _).mono ?_
      rw [e0]
      rintro e w1 ⟨rfl, J⟩
      obtain ⟨hc, hf⟩ := bcell J
      go_wp2_with fail
      refine (sHas_any _ _ _ _ _ _ _).mono ?_
      rw [e0]
      rintro e w1 ⟨rfl, J2⟩
      replace J := bw_trans J J2
      clear hc hf J2
      obtain ⟨hc, hf⟩ := bcell J
      go_wp2_with fail
      refine (sSeg_any _ _ _ _ _).mono ?_
      rw [gs]
      rintro e w1 ⟨rfl, J2⟩
      replace J := bw_trans J J2
      clear hc hf J2
      obtain ⟨hc, hf⟩ := bcell J
      go_wp2_with fail
      refine (sPt_any _ _ _).mono ?_
      rw [gp]
      rintro e w1 ⟨rfl, J2⟩
      replace J := bw_trans J J2
      clear hc hf J2
      obtain ⟨hc, hf⟩ := bcell J
      go_wp2_with fail
      refine (sHas_any _ _ _ _ _ _ _).mono ?_
      rw [e0]
      rintro e w1 ⟨rfl, J2⟩
      replace J := bw_trans J J2
      clear hc hf J2
      obtain ⟨hc, hf⟩ := bcell J
      go_wp2_with fail
      go_ret
      exact ⟨rfl, bw_trans BW J⟩
    · skip
      obtain ⟨pa, pb, hd⟩ := sg_parts gs
      have e0 := has_val gs gp
      have hz := (ok_zero (far_ok gs gp)).symm.trans (far_zero gs gp)
      have gsb : sgB bx b_y ax ay = true := by rw [sgB_back]; exact gs
      cases hh : hasC ax ay bx b_y px py
      · rw [hh] at e0 hz
        have ez : zeroB (far ax ay bx b_y px py) = false := by unfold zeroB; simp [hz]
        have X1 : Hid (∀ w, Sent ad w → Calls Tryd.prog 20 #[.agg #[.int .i64 ax, .int .i64 ay, .int .i64 bx, .int .i64 b_y], .agg #[.int .i64 px, .int .i64 py]] w fun e w' => e = .returned (.agg #[.int .i64 (far ax ay bx b_y px py).1, .int .i64 (far ax ay bx b_y px py).2]) ∧ Below w.heap.size w w') := fun w hs => segFar_ok ax ay bx b_y px py ad w hs gs gp
        have X2 : Hid (∀ w, Calls Tryd.prog 19 #[.agg #[.int .i64 (far ax ay bx b_y px py).1, .int .i64 (far ax ay bx b_y px py).2]] w fun e w' => e = .returned (.bool false) ∧ Below w.heap.size w w') := fun w => by have := luZero_any (far ax ay bx b_y px py) w; rwa [ez] at this
        go_wp2_with fail
        refine (has_any _ _ _ _ _ _ _).mono ?_
        rw [e0]
        rintro e w1 ⟨rfl, J⟩
        obtain ⟨hc, hf⟩ := bcell J
        go_wp2_with fail
        refine (sHas_any _ _ _ _ _ _ _).mono ?_
        rw [e0]
        rintro e w1 ⟨rfl, J2⟩
        replace J := bw_trans J J2
        clear hc hf J2
        obtain ⟨hc, hf⟩ := bcell J
        go_wp2_with fail
        refine (sSeg_any _ _ _ _ _).mono ?_
        rw [gs]
        rintro e w1 ⟨rfl, J2⟩
        replace J := bw_trans J J2
        clear hc hf J2
        obtain ⟨hc, hf⟩ := bcell J
        go_wp2_with fail
        refine (sPt_any _ _ _).mono ?_
        rw [gp]
        rintro e w1 ⟨rfl, J2⟩
        replace J := bw_trans J J2
        clear hc hf J2
        obtain ⟨hc, hf⟩ := bcell J
        clear e0 hz ez hd gsb
        go_upto_region 7 with fail
        replace S := keep J S
        replace T := keep J T
        replace BW := bw_trans BW J
        replace hs := hs.below J
        clear hc hf J zS zT fS0 fS1 fS2 fS3 fT0 fT1
        obtain ⟨uS0, uS1, uS2, uS3⟩ := reg_4 S
        obtain ⟨uT0, uT1⟩ := reg_2 T
        refine wp_region_quiet_below (by kernel_rfl) (by kernel_rfl) ?_
        repeat (first | go_big_quiet_step (first | (go_at_call 20; with_reducible exact Calls.regrown_of (X1.out _ (hs.below (below_regrown _ _ _)))) | (go_at_call 19; with_reducible exact Calls.regrown_of (X2.out _))))
        refine wpQuiet_nil ?_
        intro _ hw'
        obtain ⟨⟨dq, osq⟩, hw''⟩ := hw'
        subst hw''
        have J := below_regrown w1 dq osq
        generalize grow (redrawn w1 dq) osq = v1 at J ⊢
        replace S := keep J S
        replace T := keep J T
        replace BW := bw_trans BW J
        replace hs := hs.below J
        clear J uS0 uS1 uS2 uS3 uT0 uT1
        go_wp2_with fail
        go_ret
        exact ⟨rfl, BW⟩
      · rw [hh] at e0 hz
        have ez : zeroB (far ax ay bx b_y px py) = true := by unfold zeroB; simp [hz]
        have X1 : Hid (∀ w, Sent ad w → Calls Tryd.prog 20 #[.agg #[.int .i64 ax, .int .i64 ay, .int .i64 bx, .int .i64 b_y], .agg #[.int .i64 px, .int .i64 py]] w fun e w' => e = .returned (.agg #[.int .i64 (far ax ay bx b_y px py).1, .int .i64 (far ax ay bx b_y px py).2]) ∧ Below w.heap.size w w') := fun w hs => segFar_ok ax ay bx b_y px py ad w hs gs gp
        have X2 : Hid (∀ w, Calls Tryd.prog 19 #[.agg #[.int .i64 (far ax ay bx b_y px py).1, .int .i64 (far ax ay bx b_y px py).2]] w fun e w' => e = .returned (.bool true) ∧ Below w.heap.size w w') := fun w => by have := luZero_any (far ax ay bx b_y px py) w; rwa [ez] at this
        have n1 : dt px py ax ay ax ay ≤ dt bx b_y ax ay ax ay := by have := has_near hd hh; rw [dt_self_back ax ay px py, dt_self_back ax ay bx b_y]; exact this
        have n2 : dt px py bx b_y bx b_y ≤ dt bx b_y ax ay ax ay := by have := has_near (ax := bx) (ay := b_y) (bx := ax) (b_y := ay) (by omega) (by rw [has_back ax ay]; exact hh); rw [dt_self_back bx b_y px py]; exact this
        have X3 : Hid (∀ w, Calls Tryd.prog 21 #[.agg #[.int .i64 ax, .int .i64 ay], .agg #[.int .i64 px, .int .i64 py]] w fun e w' => e = .returned (.int .i64 (dt px py ax ay ax ay)) ∧ Below w.heap.size w w') := fun w => luSq_ok ax ay px py w pa gp
        have X4 : Hid (∀ w, Calls Tryd.prog 21 #[.agg #[.int .i64 ax, .int .i64 ay], .agg #[.int .i64 bx, .int .i64 b_y]] w fun e w' => e = .returned (.int .i64 (dt bx b_y ax ay ax ay)) ∧ Below w.heap.size w w') := fun w => luSq_ok ax ay bx b_y w pa pb
        have X5 : Hid (∀ w, Calls Tryd.prog 21 #[.agg #[.int .i64 bx, .int .i64 b_y], .agg #[.int .i64 px, .int .i64 py]] w fun e w' => e = .returned (.int .i64 (dt px py bx b_y bx b_y)) ∧ Below w.heap.size w w') := fun w => luSq_ok bx b_y px py w pb gp
        go_wp2_with fail
        refine (has_any _ _ _ _ _ _ _).mono ?_
        rw [e0]
        rintro e w1 ⟨rfl, J⟩
        obtain ⟨hc, hf⟩ := bcell J
        go_wp2_with fail
        refine (sHas_any _ _ _ _ _ _ _).mono ?_
        rw [e0]
        rintro e w1 ⟨rfl, J2⟩
        replace J := bw_trans J J2
        clear hc hf J2
        obtain ⟨hc, hf⟩ := bcell J
        go_wp2_with fail
        refine (sSeg_any _ _ _ _ _).mono ?_
        rw [gs]
        rintro e w1 ⟨rfl, J2⟩
        replace J := bw_trans J J2
        clear hc hf J2
        obtain ⟨hc, hf⟩ := bcell J
        go_wp2_with fail
        refine (sPt_any _ _ _).mono ?_
        rw [gp]
        rintro e w1 ⟨rfl, J2⟩
        replace J := bw_trans J J2
        clear hc hf J2
        obtain ⟨hc, hf⟩ := bcell J
        clear e0 hz ez hd gsb
        generalize dt px py ax ay ax ay = d1 at *
        generalize dt bx b_y ax ay ax ay = d2 at *
        generalize dt px py bx b_y bx b_y = d3 at *
        go_upto_region 7 with fail
        replace S := keep J S
        replace T := keep J T
        replace BW := bw_trans BW J
        replace hs := hs.below J
        clear hc hf J zS zT fS0 fS1 fS2 fS3 fT0 fT1
        obtain ⟨uS0, uS1, uS2, uS3⟩ := reg_4 S
        obtain ⟨uT0, uT1⟩ := reg_2 T
        refine wp_region_quiet_below (by kernel_rfl) (by kernel_rfl) ?_
        repeat (first | go_big_quiet_step (first | (go_at_call 20; with_reducible exact Calls.regrown_of (X1.out _ (hs.below (below_regrown _ _ _)))) | (go_at_call 19; with_reducible exact Calls.regrown_of (X2.out _)) | (go_at_call 21; with_reducible exact Calls.regrown_of (X3.out _)) | (go_at_call 21; with_reducible exact Calls.regrown_of (X4.out _)) | (go_at_call 21; with_reducible exact Calls.regrown_of (X5.out _))))
        refine wpQuiet_nil ?_
        intro _ hw'
        obtain ⟨⟨dq, osq⟩, hw''⟩ := hw'
        subst hw''
        have J := below_regrown w1 dq osq
        generalize grow (redrawn w1 dq) osq = v1 at J ⊢
        replace S := keep J S
        replace T := keep J T
        replace BW := bw_trans BW J
        replace hs := hs.below J
        clear J uS0 uS1 uS2 uS3 uT0 uT1
        go_wp2_with fail
        go_ret
        exact ⟨rfl, BW⟩
end Go.Proofs.YtmjbfocghlhecaaDoor
