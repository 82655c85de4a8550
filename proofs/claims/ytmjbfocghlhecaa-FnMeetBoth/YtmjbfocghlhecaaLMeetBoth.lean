/-
  OUR OWN TEXT. The law FnMeetBoth, walked: whatever bytes come in, it answers true and writes nothing that was there.
-/
import Derived.Test.YtmjbfocghlhecaaDrawP
import Derived.Test.YtmjbfocghlhecaaSMeet
import Derived.Test.YtmjbfocghlhecaaLu
namespace Go.Proofs.Ytmjbfocghlhecaa
open Go.RowKit Go.Sort

theorem meetBoth_long (w : World) (a0 : Option Addr) (len0 cap0 : Nat) (h : 1048576 < len0) :
    Calls Try.prog 8 #[.slice a0 len0 cap0] w fun e w' => e = .returned (.bool true) ∧ Below w.heap.size w w' := by
  go_enter Try.func8, Try.ntmps8
  go_wp2
  go_ret
  exact ⟨rfl, bw_refl _⟩
set_option maxHeartbeats 2000000 in
theorem meetBoth_walk (w : World) (a0 : Option Addr) (len0 cap0 : Nat) (z0 : List Int) (r0 : IsRow .u8 w a0 len0 cap0 z0) :
    Calls Try.prog 8 #[.slice a0 len0 cap0] w fun e w' => e = .returned (.bool true) ∧ Below w.heap.size w w' := by
  by_cases hl : 1048576 < len0
  · exact meetBoth_long w a0 len0 cap0 hl
  have hl0 : len0 ≤ 1048576 := by omega
  clear hl
  go_enter Try.func8, Try.ntmps8
  go_wp2_with fail
  refine (drawMeet_any w _ r0 (bw_refl _)).mono ?_
  rintro e w0 ⟨ax, ay, bx, b_y, cx, cy, ex, ey, rfl, b1⟩
  obtain ⟨W, hW, BW, S, T⟩ := boxes2 w0 (.cells #[.int .i64 ax, .int .i64 ay, .int .i64 bx, .int .i64 b_y] 30) (.cells #[.int .i64 cx, .int .i64 cy, .int .i64 ex, .int .i64 ey] 30)
  replace BW := bw_trans b1 BW
  clear b1
  go_upto_region 4 with fail
  rw [← hW]
  clear hW
  have zS := blk_lt S
  obtain ⟨fS0, fS1, fS2, fS3⟩ := blk_4 S
  have zT := blk_lt T
  obtain ⟨fT0, fT1, fT2, fT3⟩ := blk_4 T
  cases gs : sgB ax ay bx b_y
  · have e0 : meetV ax ay bx b_y cx cy ex ey = false := by unfold meetV; rw [gs]; rfl
    go_wp2_with fail
    refine (meet_any _ _ _ _ _ _ _ _ _).mono ?_
    rw [e0]
    rintro e w1 ⟨rfl, J⟩
    obtain ⟨hc, hf⟩ := bcell J
    go_wp2_with fail
    refine (sMeet_any _ _ _ _ _ _ _ _ _).mono ?_
    rw [e0]
    rintro e w1 ⟨rfl, J2⟩
    replace J := bw_trans J J2
    clear hc hf J2
    obtain ⟨hc, hf⟩ := bcell J
    go_wp2_with fail
    refine (sSeg_any _ _ _ _ _).mono ?_
    rw [gs]
    rintro e w1 ⟨rfl, J2⟩
    replace J := bw_trans J J2
    clear hc hf J2
    obtain ⟨hc, hf⟩ := bcell J
    go_wp2_with fail
    refine (sMeet_any _ _ _ _ _ _ _ _ _).mono ?_
    rw [e0]
    rintro e w1 ⟨rfl, J2⟩
    replace J := bw_trans J J2
    clear hc hf J2
    obtain ⟨hc, hf⟩ := bcell J
    go_wp2_with fail
    go_ret
    exact ⟨rfl, bw_trans BW J⟩
  · skip
    cases gt : sgB cx cy ex ey
    · have e0 : meetV ax ay bx b_y cx cy ex ey = false := by unfold meetV; rw [gs, gt]; rfl
      go_wp2_with fail
      refine (meet_any _ _ _ _ _ _ _ _ _).mono ?_
      rw [e0]
      rintro e w1 ⟨rfl, J⟩
      obtain ⟨hc, hf⟩ := bcell J
      go_wp2_with fail
      refine (sMeet_any _ _ _ _ _ _ _ _ _).mono ?_
      rw [e0]
      rintro e w1 ⟨rfl, J2⟩
      replace J := bw_trans J J2
      clear hc hf J2
      obtain ⟨hc, hf⟩ := bcell J
      go_wp2_with fail
      refine (sSeg_any _ _ _ _ _).mono ?_
      rw [gs]
      rintro e w1 ⟨rfl, J2⟩
      replace J := bw_trans J J2
      clear hc hf J2
      obtain ⟨hc, hf⟩ := bcell J
      go_wp2_with fail
      refine (sSeg_any _ _ _ _ _).mono ?_
      rw [gt]
      rintro e w1 ⟨rfl, J2⟩
      replace J := bw_trans J J2
      clear hc hf J2
      obtain ⟨hc, hf⟩ := bcell J
      go_wp2_with fail
      refine (sMeet_any _ _ _ _ _ _ _ _ _).mono ?_
      rw [e0]
      rintro e w1 ⟨rfl, J2⟩
      replace J := bw_trans J J2
      clear hc hf J2
      obtain ⟨hc, hf⟩ := bcell J
      go_wp2_with fail
      go_ret
      exact ⟨rfl, bw_trans BW J⟩
    · skip
      have e1 : meetV ax ay bx b_y cx cy ex ey = meetC ax ay bx b_y cx cy ex ey := by unfold meetV; rw [gs, gt]; rfl
      have gsb : sgB bx b_y ax ay = true := by rw [sgB_back]; exact gs
      have gtb : sgB ex ey cx cy = true := by rw [sgB_back]; exact gt
      have m1 : ∀ w, Calls Try.prog 32 #[.agg #[.int .i64 cx, .int .i64 cy, .int .i64 ex, .int .i64 ey], .agg #[.int .i64 ax, .int .i64 ay, .int .i64 bx, .int .i64 b_y]] w fun e w' => e = .returned (.bool (meetC ax ay bx b_y cx cy ex ey)) ∧ Below w.heap.size w w' := fun w => by have := meet_ok cx cy ex ey ax ay bx b_y w gt gs; rwa [meet_comm ax ay bx b_y cx cy ex ey] at this
      have m2 : ∀ w, Calls Try.prog 32 #[.agg #[.int .i64 bx, .int .i64 b_y, .int .i64 ax, .int .i64 ay], .agg #[.int .i64 cx, .int .i64 cy, .int .i64 ex, .int .i64 ey]] w fun e w' => e = .returned (.bool (meetC ax ay bx b_y cx cy ex ey)) ∧ Below w.heap.size w w' := fun w => by have := meet_ok bx b_y ax ay cx cy ex ey w gsb gt; rwa [meet_back1 ax ay bx b_y cx cy ex ey] at this
      have m3 : ∀ w, Calls Try.prog 32 #[.agg #[.int .i64 ax, .int .i64 ay, .int .i64 bx, .int .i64 b_y], .agg #[.int .i64 ex, .int .i64 ey, .int .i64 cx, .int .i64 cy]] w fun e w' => e = .returned (.bool (meetC ax ay bx b_y cx cy ex ey)) ∧ Below w.heap.size w w' := fun w => by have := meet_ok ax ay bx b_y ex ey cx cy w gs gtb; rwa [meet_back2 ax ay bx b_y cx cy ex ey] at this
      have m4 : ∀ w, Calls Try.prog 32 #[.agg #[.int .i64 ax, .int .i64 ay, .int .i64 bx, .int .i64 b_y], .agg #[.int .i64 ax, .int .i64 ay, .int .i64 bx, .int .i64 b_y]] w fun e w' => e = .returned (.bool true) ∧ Below w.heap.size w w' := fun w => by have := meet_ok ax ay bx b_y ax ay bx b_y w gs gs; rwa [meet_self] at this
      cases hm : meetC ax ay bx b_y cx cy ex ey
      · rw [hm] at e1 m1 m2 m3
        have M1 : Hid _ := m1
        have M2 : Hid _ := m2
        have M3 : Hid _ := m3
        have M4 : Hid _ := m4
        clear m1 m2 m3 m4 gsb gtb
        go_wp2_with fail
        refine (meet_any _ _ _ _ _ _ _ _ _).mono ?_
        rw [e1]
        rintro e w1 ⟨rfl, J⟩
        obtain ⟨hc, hf⟩ := bcell J
        go_wp2_with fail
        refine (sMeet_any _ _ _ _ _ _ _ _ _).mono ?_
        rw [e1]
        rintro e w1 ⟨rfl, J2⟩
        replace J := bw_trans J J2
        clear hc hf J2
        obtain ⟨hc, hf⟩ := bcell J
        go_wp2_with fail
        refine (sSeg_any _ _ _ _ _).mono ?_
        rw [gs]
        rintro e w1 ⟨rfl, J2⟩
        replace J := bw_trans J J2
        clear hc hf J2
        obtain ⟨hc, hf⟩ := bcell J
        go_wp2_with fail
        refine (sSeg_any _ _ _ _ _).mono ?_
        rw [gt]
        rintro e w1 ⟨rfl, J2⟩
        replace J := bw_trans J J2
        clear hc hf J2
        obtain ⟨hc, hf⟩ := bcell J
        go_upto_region 7 with fail
        have U := keep J S
        have V := keep J T
        replace BW := bw_trans BW J
        clear hc hf J S T zS zT fS0 fS1 fS2 fS3 fT0 fT1 fT2 fT3
        obtain ⟨u0, u1, u2, u3⟩ := reg_4 U
        obtain ⟨v0, v1, v2, v3⟩ := reg_4 V
        refine wp_region_quiet_below (by kernel_rfl) (by kernel_rfl) ?_
        repeat (first | go_big_quiet_step (first | (go_at_call 24; with_reducible exact Calls.regrown_of (luBack_any _ _ _ _ _)) | (go_at_call 32; with_reducible exact Calls.regrown_of (M1.out _)) | (go_at_call 32; with_reducible exact Calls.regrown_of (M2.out _)) | (go_at_call 32; with_reducible exact Calls.regrown_of (M3.out _)) | (go_at_call 32; with_reducible exact Calls.regrown_of (M4.out _))))
        refine wpQuiet_nil ?_
        intro _ hw'
        obtain ⟨⟨dq, osq⟩, hw''⟩ := hw'
        subst hw''
        have J := below_regrown w1 dq osq
        generalize grow (redrawn w1 dq) osq = w2 at J ⊢
        go_wp2_with fail
        go_ret
        exact ⟨rfl, bw_trans BW J⟩
      · rw [hm] at e1 m1 m2 m3
        have M1 : Hid _ := m1
        have M2 : Hid _ := m2
        have M3 : Hid _ := m3
        have M4 : Hid _ := m4
        clear m1 m2 m3 m4 gsb gtb
        go_wp2_with fail
        refine (meet_any _ _ _ _ _ _ _ _ _).mono ?_
        rw [e1]
        rintro e w1 ⟨rfl, J⟩
        obtain ⟨hc, hf⟩ := bcell J
        go_wp2_with fail
        refine (sMeet_any _ _ _ _ _ _ _ _ _).mono ?_
        rw [e1]
        rintro e w1 ⟨rfl, J2⟩
        replace J := bw_trans J J2
        clear hc hf J2
        obtain ⟨hc, hf⟩ := bcell J
        go_wp2_with fail
        refine (sSeg_any _ _ _ _ _).mono ?_
        rw [gs]
        rintro e w1 ⟨rfl, J2⟩
        replace J := bw_trans J J2
        clear hc hf J2
        obtain ⟨hc, hf⟩ := bcell J
        go_wp2_with fail
        refine (sSeg_any _ _ _ _ _).mono ?_
        rw [gt]
        rintro e w1 ⟨rfl, J2⟩
        replace J := bw_trans J J2
        clear hc hf J2
        obtain ⟨hc, hf⟩ := bcell J
        go_upto_region 7 with fail
        have U := keep J S
        have V := keep J T
        replace BW := bw_trans BW J
        clear hc hf J S T zS zT fS0 fS1 fS2 fS3 fT0 fT1 fT2 fT3
        obtain ⟨u0, u1, u2, u3⟩ := reg_4 U
        obtain ⟨v0, v1, v2, v3⟩ := reg_4 V
        refine wp_region_quiet_below (by kernel_rfl) (by kernel_rfl) ?_
        repeat (first | go_big_quiet_step (first | (go_at_call 24; with_reducible exact Calls.regrown_of (luBack_any _ _ _ _ _)) | (go_at_call 32; with_reducible exact Calls.regrown_of (M1.out _)) | (go_at_call 32; with_reducible exact Calls.regrown_of (M2.out _)) | (go_at_call 32; with_reducible exact Calls.regrown_of (M3.out _)) | (go_at_call 32; with_reducible exact Calls.regrown_of (M4.out _))))
        refine wpQuiet_nil ?_
        intro _ hw'
        obtain ⟨⟨dq, osq⟩, hw''⟩ := hw'
        subst hw''
        have J := below_regrown w1 dq osq
        generalize grow (redrawn w1 dq) osq = w2 at J ⊢
        go_wp2_with fail
        go_ret
        exact ⟨rfl, bw_trans BW J⟩
end Go.Proofs.Ytmjbfocghlhecaa
