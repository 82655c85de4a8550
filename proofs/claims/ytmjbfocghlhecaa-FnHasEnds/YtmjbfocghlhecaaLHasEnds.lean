/-
  OUR OWN TEXT. The law FnHasEnds, walked: whatever bytes come in, it answers true and writes nothing that was there.
-/
import Derived.Test.YtmjbfocghlhecaaDrawP
import Derived.Test.YtmjbfocghlhecaaSMeet
import Derived.Test.YtmjbfocghlhecaaLu
namespace Go.Proofs.Ytmjbfocghlhecaa
open Go.RowKit Go.Sort

theorem hasEnds_long (w : World) (a0 : Option Addr) (len0 cap0 : Nat) (h : 1048576 < len0) :
    Calls Try.prog 7 #[.slice a0 len0 cap0] w fun e w' => e = .returned (.bool true) ∧ Below w.heap.size w w' := by
  go_enter Try.func7, Try.ntmps7
  go_wp2
  go_ret
  exact ⟨rfl, bw_refl _⟩
set_option maxHeartbeats 2000000 in
theorem hasEnds_walk (w : World) (a0 : Option Addr) (len0 cap0 : Nat) (z0 : List Int) (r0 : IsRow .u8 w a0 len0 cap0 z0) :
    Calls Try.prog 7 #[.slice a0 len0 cap0] w fun e w' => e = .returned (.bool true) ∧ Below w.heap.size w w' := by
  by_cases hl : 1048576 < len0
  · exact hasEnds_long w a0 len0 cap0 hl
  have hl0 : len0 ≤ 1048576 := by omega
  clear hl
  go_enter Try.func7, Try.ntmps7
  go_wp2_with fail
  refine (drawHas_any w _ r0 (bw_refl _)).mono ?_
  rintro e w0 ⟨ax, ay, bx, b_y, px, py, rfl, b1⟩
  obtain ⟨W, hW, BW, S, T⟩ := boxes2 w0 (.cells #[.int .i64 ax, .int .i64 ay, .int .i64 bx, .int .i64 b_y] 30) (.cells #[.int .i64 px, .int .i64 py] 24)
  replace BW := bw_trans b1 BW
  clear b1
  go_upto_region 4 with fail
  rw [← hW]
  clear hW
  have zS := blk_lt S
  obtain ⟨fS0, fS1, fS2, fS3⟩ := blk_4 S
  have zT := blk_lt T
  obtain ⟨fT0, fT1⟩ := blk_2 T
  have hne : ∀ b : Bool, (b != b) = false := by simp
  have heq : ∀ b : Bool, (b == b) = true := by simp
  cases hs : sgB ax ay bx b_y
  · have e0 : hasV ax ay bx b_y px py = false := by unfold hasV; rw [hs]; rfl
    go_wp2_with fail
    refine (has_any _ _ _ _ _ _ _).mono ?_
    rw [e0]
    rintro e w1 ⟨rfl, J⟩
    obtain ⟨hc, hf⟩ := bcell J
    go_wp2_with fail
    refine (sHas_any _ _ _ _ _ _ _).mono ?_
    rw [e0]
    rintro e w1 ⟨rfl, J2⟩
    replace J := bw_trans J J2
    clear hc hf J2
    obtain ⟨hc, hf⟩ := bcell J
    go_wp2_with fail
    refine (sSeg_any _ _ _ _ _).mono ?_
    rw [hs]
    rintro e w1 ⟨rfl, J2⟩
    replace J := bw_trans J J2
    clear hc hf J2
    obtain ⟨hc, hf⟩ := bcell J
    go_wp2_with fail
    refine (sHas_any _ _ _ _ _ _ _).mono ?_
    rw [e0]
    rintro e w1 ⟨rfl, J2⟩
    replace J := bw_trans J J2
    clear hc hf J2
    obtain ⟨hc, hf⟩ := bcell J
    go_wp2_with fail
    go_ret
    exact ⟨rfl, bw_trans BW J⟩
  · cases hp : ptB px py
    · have e0 : hasV ax ay bx b_y px py = false := by unfold hasV; rw [hs, hp]; rfl
      go_wp2_with fail
      refine (has_any _ _ _ _ _ _ _).mono ?_
      rw [e0]
      rintro e w1 ⟨rfl, J⟩
      obtain ⟨hc, hf⟩ := bcell J
      go_wp2_with fail
      refine (sHas_any _ _ _ _ _ _ _).mono ?_
      rw [e0]
      rintro e w1 ⟨rfl, J2⟩
      replace J := bw_trans J J2
      clear hc hf J2
      obtain ⟨hc, hf⟩ := bcell J
      go_wp2_with fail
      refine (sSeg_any _ _ _ _ _).mono ?_
      rw [hs]
      rintro e w1 ⟨rfl, J2⟩
      replace J := bw_trans J J2
      clear hc hf J2
      obtain ⟨hc, hf⟩ := bcell J
      go_wp2_with fail
      refine (sPt_any _ _ _).mono ?_
      rw [hp]
      rintro e w1 ⟨rfl, J2⟩
      replace J := bw_trans J J2
      clear hc hf J2
      obtain ⟨hc, hf⟩ := bcell J
      go_wp2_with fail
      refine (sHas_any _ _ _ _ _ _ _).mono ?_
      rw [e0]
      rintro e w1 ⟨rfl, J2⟩
      replace J := bw_trans J J2
      clear hc hf J2
      obtain ⟨hc, hf⟩ := bcell J
      go_wp2_with fail
      go_ret
      exact ⟨rfl, bw_trans BW J⟩
    · obtain ⟨ha, hb, _⟩ := sg_parts hs
      have e0 := has_val hs hp
      have hsb : sgB bx b_y ax ay = true := by rw [sgB_back]; exact hs
      cases hh : hasC ax ay bx b_y px py
      · rw [hh] at e0
        have Q1 : Hid (∀ w, Calls Try.prog 29 #[.agg #[.int .i64 ax, .int .i64 ay, .int .i64 bx, .int .i64 b_y], .agg #[.int .i64 ax, .int .i64 ay]] w fun e w' => e = .returned (.bool true) ∧ Below w.heap.size w w') := fun w => by have := has_ok ax ay bx b_y ax ay w hs ha; rwa [has_first] at this
        have Q2 : Hid (∀ w, Calls Try.prog 29 #[.agg #[.int .i64 ax, .int .i64 ay, .int .i64 bx, .int .i64 b_y], .agg #[.int .i64 bx, .int .i64 b_y]] w fun e w' => e = .returned (.bool true) ∧ Below w.heap.size w w') := fun w => by have := has_ok ax ay bx b_y bx b_y w hs hb; rwa [has_last] at this
        have Q3 : Hid (∀ w, Calls Try.prog 29 #[.agg #[.int .i64 bx, .int .i64 b_y, .int .i64 ax, .int .i64 ay], .agg #[.int .i64 px, .int .i64 py]] w fun e w' => e = .returned (.bool false) ∧ Below w.heap.size w w') := fun w => by have := has_ok bx b_y ax ay px py w hsb hp; rwa [has_back ax ay bx b_y px py, hh] at this
        go_wp2_with fail
        refine (has_any _ _ _ _ _ _ _).mono ?_
        rw [e0]
        rintro e w1 ⟨rfl, J⟩
        obtain ⟨hc, hf⟩ := bcell J
        go_wp2_with fail
        refine (sHas_any _ _ _ _ _ _ _).mono ?_
        rw [e0]
        rintro e w1 ⟨rfl, J2⟩
        replace J := bw_trans J J2
        clear hc hf J2
        obtain ⟨hc, hf⟩ := bcell J
        go_wp2_with fail
        refine (sSeg_any _ _ _ _ _).mono ?_
        rw [hs]
        rintro e w1 ⟨rfl, J2⟩
        replace J := bw_trans J J2
        clear hc hf J2
        obtain ⟨hc, hf⟩ := bcell J
        go_wp2_with fail
        refine (sPt_any _ _ _).mono ?_
        rw [hp]
        rintro e w1 ⟨rfl, J2⟩
        replace J := bw_trans J J2
        clear hc hf J2
        obtain ⟨hc, hf⟩ := bcell J
        go_upto_region 7 with fail
        have U := keep J S
        have V := keep J T
        replace BW := bw_trans BW J
        clear hc hf J S T zS zT fS0 fS1 fS2 fS3 fT0 fT1 e0
        obtain ⟨u0, u1, u2, u3⟩ := reg_4 U
        obtain ⟨u4, u5⟩ := reg_2 V
        clear U V
        refine wp_region_quiet_below (by kernel_rfl) (by kernel_rfl) ?_
        repeat (first | go_big_quiet_step (first | (go_at_call 29; with_reducible exact Calls.regrown_of (Q1.out _)) | (go_at_call 29; with_reducible exact Calls.regrown_of (Q2.out _)) | (go_at_call 24; with_reducible exact Calls.regrown_of (luBack_any _ _ _ _ _)) | (go_at_call 29; with_reducible exact Calls.regrown_of (Q3.out _))))
        refine wpQuiet_nil ?_
        intro _ hw'
        obtain ⟨⟨dq, osq⟩, hw''⟩ := hw'
        subst hw''
        have J := below_regrown w1 dq osq
        generalize grow (redrawn w1 dq) osq = w2 at J ⊢
        go_wp2_with fail
        go_ret
        exact ⟨rfl, bw_trans BW J⟩
      · rw [hh] at e0
        have ht := has_turn hh
        have Q1 : Hid (∀ w, Calls Try.prog 29 #[.agg #[.int .i64 ax, .int .i64 ay, .int .i64 bx, .int .i64 b_y], .agg #[.int .i64 ax, .int .i64 ay]] w fun e w' => e = .returned (.bool true) ∧ Below w.heap.size w w') := fun w => by have := has_ok ax ay bx b_y ax ay w hs ha; rwa [has_first] at this
        have Q2 : Hid (∀ w, Calls Try.prog 29 #[.agg #[.int .i64 ax, .int .i64 ay, .int .i64 bx, .int .i64 b_y], .agg #[.int .i64 bx, .int .i64 b_y]] w fun e w' => e = .returned (.bool true) ∧ Below w.heap.size w w') := fun w => by have := has_ok ax ay bx b_y bx b_y w hs hb; rwa [has_last] at this
        have Q3 : Hid (∀ w, Calls Try.prog 29 #[.agg #[.int .i64 bx, .int .i64 b_y, .int .i64 ax, .int .i64 ay], .agg #[.int .i64 px, .int .i64 py]] w fun e w' => e = .returned (.bool true) ∧ Below w.heap.size w w') := fun w => by have := has_ok bx b_y ax ay px py w hsb hp; rwa [has_back ax ay bx b_y px py, hh] at this
        have Q4 : Hid (∀ w, Calls Try.prog 26 #[.agg #[.int .i64 ax, .int .i64 ay], .agg #[.int .i64 bx, .int .i64 b_y], .agg #[.int .i64 px, .int .i64 py]] w fun e w' => e = .returned (.int .i64 0) ∧ Below w.heap.size w w') := fun w => by have := turn_ok ax ay bx b_y px py w ha hb hp; rwa [ht] at this
        clear ht
        go_wp2_with fail
        refine (has_any _ _ _ _ _ _ _).mono ?_
        rw [e0]
        rintro e w1 ⟨rfl, J⟩
        obtain ⟨hc, hf⟩ := bcell J
        go_wp2_with fail
        refine (sHas_any _ _ _ _ _ _ _).mono ?_
        rw [e0]
        rintro e w1 ⟨rfl, J2⟩
        replace J := bw_trans J J2
        clear hc hf J2
        obtain ⟨hc, hf⟩ := bcell J
        go_wp2_with fail
        refine (sSeg_any _ _ _ _ _).mono ?_
        rw [hs]
        rintro e w1 ⟨rfl, J2⟩
        replace J := bw_trans J J2
        clear hc hf J2
        obtain ⟨hc, hf⟩ := bcell J
        go_wp2_with fail
        refine (sPt_any _ _ _).mono ?_
        rw [hp]
        rintro e w1 ⟨rfl, J2⟩
        replace J := bw_trans J J2
        clear hc hf J2
        obtain ⟨hc, hf⟩ := bcell J
        go_upto_region 7 with fail
        have U := keep J S
        have V := keep J T
        replace BW := bw_trans BW J
        clear hc hf J S T zS zT fS0 fS1 fS2 fS3 fT0 fT1 e0
        obtain ⟨u0, u1, u2, u3⟩ := reg_4 U
        obtain ⟨u4, u5⟩ := reg_2 V
        clear U V
        refine wp_region_quiet_below (by kernel_rfl) (by kernel_rfl) ?_
        repeat (first | go_big_quiet_step (first | (go_at_call 29; with_reducible exact Calls.regrown_of (Q1.out _)) | (go_at_call 29; with_reducible exact Calls.regrown_of (Q2.out _)) | (go_at_call 24; with_reducible exact Calls.regrown_of (luBack_any _ _ _ _ _)) | (go_at_call 29; with_reducible exact Calls.regrown_of (Q3.out _)) | (go_at_call 26; with_reducible exact Calls.regrown_of (Q4.out _))))
        refine wpQuiet_nil ?_
        intro _ hw'
        obtain ⟨⟨dq, osq⟩, hw''⟩ := hw'
        subst hw''
        have J := below_regrown w1 dq osq
        generalize grow (redrawn w1 dq) osq = w2 at J ⊢
        go_wp2_with fail
        go_ret
        exact ⟨rfl, bw_trans BW J⟩
end Go.Proofs.Ytmjbfocghlhecaa
