/-
  OUR OWN TEXT. The law FnTurnMirror, walked: whatever bytes come in, it answers true and writes nothing that was there.
-/
import Derived.Test.YtempleochkohlaaDrawT
import Derived.Test.YtempleochkohlaaSTurn
import Derived.Test.YtempleochkohlaaLu
namespace Go.Proofs.Ytempleochkohlaa
open Go.RowKit Go.Sort

theorem turnV_bd (ax ay bx b_y cx cy : Int) : turnV ax ay bx b_y cx cy = -1 ∨ turnV ax ay bx b_y cx cy = 0 ∨ turnV ax ay bx b_y cx cy = 1 := by
  unfold turnV tn cmpI; split
  · split
    · exact .inl rfl
    · split
      · exact .inr (.inr rfl)
      · exact .inr (.inl rfl)
  · exact .inr (.inl rfl)
theorem ptB_mir (x y : Int) : ptB (9 - x) y = ptB x y := by rw [Bool.eq_iff_iff, ptB_iff, ptB_iff]; omega
theorem ptB_swap (x y : Int) : ptB y x = ptB x y := by rw [Bool.eq_iff_iff, ptB_iff, ptB_iff]; omega
theorem turnV_mir (ax ay bx b_y cx cy : Int) : turnV (9 - ax) ay (9 - bx) b_y (9 - cx) cy = - turnV ax ay bx b_y cx cy := by
  unfold turnV; rw [tn_mir, ptB_mir, ptB_mir, ptB_mir]; split <;> rfl
theorem turnV_swap (ax ay bx b_y cx cy : Int) : turnV ay ax b_y bx cy cx = - turnV ax ay bx b_y cx cy := by
  unfold turnV; rw [tn_swap ax ay, ptB_swap ax ay, ptB_swap bx b_y, ptB_swap cx cy]; split <;> rfl
theorem turnV_both (ax ay bx b_y cx cy : Int) : turnV ay (9 - ax) b_y (9 - bx) cy (9 - cx) = turnV ax ay bx b_y cx cy := by
  rw [turnV_swap (9 - ax) ay, turnV_mir]; omega
theorem luMirror_bd (x y : Int) (w : World) (h1 : -2 ≤ x) (h2 : x ≤ 11) :
    Calls Try.prog 16 #[.agg #[.int .i64 x, .int .i64 y]] w fun e w' => e = .returned (.agg #[.int .i64 (9-x), .int .i64 y]) ∧ Below w.heap.size w w' := by
  go_enter Try.func16, Try.ntmps16
  go_wp2
  exact bodyPost_ret (v := .agg #[.int .i64 (9-x), .int .i64 y]) (by simp [results, Try.results16, go_sem]) rfl ⟨rfl, (by repeat (first | exact bw_refl _ | assumption | apply bw_drewN | apply bw_drew | apply bw_alloc | refine bw_set ?_ (by simp) _))⟩
theorem turnMirror_long (w : World) (a0 : Option Addr) (len0 cap0 : Nat) (h : 1048576 < len0) :
    Calls Try.prog 4 #[.slice a0 len0 cap0] w fun e w' => e = .returned (.bool true) ∧ Below w.heap.size w w' := by
  go_enter Try.func4, Try.ntmps4
  go_wp2
  go_ret
  exact ⟨rfl, bw_refl _⟩
set_option maxHeartbeats 4000000 in
theorem turnMirror_walk (w : World) (a0 : Option Addr) (len0 cap0 : Nat) (z0 : List Int) (r0 : IsRow .u8 w a0 len0 cap0 z0) :
    Calls Try.prog 4 #[.slice a0 len0 cap0] w fun e w' => e = .returned (.bool true) ∧ Below w.heap.size w w' := by
  by_cases hl : 1048576 < len0
  · exact turnMirror_long w a0 len0 cap0 hl
  have hl0 : len0 ≤ 1048576 := by omega
  clear hl
  go_enter Try.func4, Try.ntmps4
  go_wp2_with fail
  refine (drawTurn_any w _ r0 (bw_refl _)).mono ?_
  rintro e w0 ⟨ax, ay, bx, b_y, cx, cy, rfl, hPB, b1⟩
  obtain ⟨W, hW, BW, S, T, U⟩ := boxes3 w0 (.cells #[.int .i64 ax, .int .i64 ay] 24) (.cells #[.int .i64 bx, .int .i64 b_y] 24) (.cells #[.int .i64 cx, .int .i64 cy] 24)
  replace BW := bw_trans b1 BW
  clear b1
  go_upto_region 4 with fail
  rw [← hW]
  clear hW
  have zS := blk_lt S
  obtain ⟨fS0, fS1⟩ := blk_2 S
  have zT := blk_lt T
  obtain ⟨fT0, fT1⟩ := blk_2 T
  have zU := blk_lt U
  obtain ⟨fU0, fU1⟩ := blk_2 U
  unfold PB at hPB
  obtain ⟨⟨q1, q2, q3, q4⟩, ⟨q5, q6, q7, q8⟩, ⟨q9, q10, q11, q12⟩⟩ := hPB
  have r1 := turnV_mir ax ay bx b_y cx cy
  have r2 := turnV_swap ax ay bx b_y cx cy
  have r3 := turnV_both ax ay bx b_y cx cy
  have M0 : Hid (∀ w, Calls Try.prog 16 #[.agg #[.int .i64 ax, .int .i64 ay]] w fun e w' => e = .returned (.agg #[.int .i64 (9-ax), .int .i64 ay]) ∧ Below w.heap.size w w') := fun w => luMirror_bd _ _ w q1 q2
  have S0 : Hid (∀ w, Calls Try.prog 17 #[.agg #[.int .i64 ax, .int .i64 ay]] w fun e w' => e = .returned (.agg #[.int .i64 ay, .int .i64 ax]) ∧ Below w.heap.size w w') := fun w => luSwap_any _ _ w
  have X0 : Hid (∀ w, Calls Try.prog 17 #[.agg #[.int .i64 (9-ax), .int .i64 ay]] w fun e w' => e = .returned (.agg #[.int .i64 ay, .int .i64 (9-ax)]) ∧ Below w.heap.size w w') := fun w => luSwap_any _ _ w
  have M1 : Hid (∀ w, Calls Try.prog 16 #[.agg #[.int .i64 bx, .int .i64 b_y]] w fun e w' => e = .returned (.agg #[.int .i64 (9-bx), .int .i64 b_y]) ∧ Below w.heap.size w w') := fun w => luMirror_bd _ _ w q5 q6
  have S1 : Hid (∀ w, Calls Try.prog 17 #[.agg #[.int .i64 bx, .int .i64 b_y]] w fun e w' => e = .returned (.agg #[.int .i64 b_y, .int .i64 bx]) ∧ Below w.heap.size w w') := fun w => luSwap_any _ _ w
  have X1 : Hid (∀ w, Calls Try.prog 17 #[.agg #[.int .i64 (9-bx), .int .i64 b_y]] w fun e w' => e = .returned (.agg #[.int .i64 b_y, .int .i64 (9-bx)]) ∧ Below w.heap.size w w') := fun w => luSwap_any _ _ w
  have M2 : Hid (∀ w, Calls Try.prog 16 #[.agg #[.int .i64 cx, .int .i64 cy]] w fun e w' => e = .returned (.agg #[.int .i64 (9-cx), .int .i64 cy]) ∧ Below w.heap.size w w') := fun w => luMirror_bd _ _ w q9 q10
  have S2 : Hid (∀ w, Calls Try.prog 17 #[.agg #[.int .i64 cx, .int .i64 cy]] w fun e w' => e = .returned (.agg #[.int .i64 cy, .int .i64 cx]) ∧ Below w.heap.size w w') := fun w => luSwap_any _ _ w
  have X2 : Hid (∀ w, Calls Try.prog 17 #[.agg #[.int .i64 (9-cx), .int .i64 cy]] w fun e w' => e = .returned (.agg #[.int .i64 cy, .int .i64 (9-cx)]) ∧ Below w.heap.size w w') := fun w => luSwap_any _ _ w
  clear q1 q2 q3 q4 q5 q6 q7 q8 q9 q10 q11 q12
  rcases turnV_bd ax ay bx b_y cx cy with ht | ht | ht
  · rw [ht] at r1 r2 r3
    have T1 : Hid (∀ w, Calls Try.prog 14 #[.agg #[.int .i64 (9-ax), .int .i64 ay], .agg #[.int .i64 (9-bx), .int .i64 b_y], .agg #[.int .i64 (9-cx), .int .i64 cy]] w fun e w' => e = .returned (.int .i64 (1)) ∧ Below w.heap.size w w') := fun w => by have := turn_any (9-ax) ay (9-bx) b_y (9-cx) cy w; rw [r1] at this; exact this
    have T2 : Hid (∀ w, Calls Try.prog 14 #[.agg #[.int .i64 ay, .int .i64 ax], .agg #[.int .i64 b_y, .int .i64 bx], .agg #[.int .i64 cy, .int .i64 cx]] w fun e w' => e = .returned (.int .i64 (1)) ∧ Below w.heap.size w w') := fun w => by have := turn_any ay ax b_y bx cy cx w; rw [r2] at this; exact this
    have T3 : Hid (∀ w, Calls Try.prog 14 #[.agg #[.int .i64 ay, .int .i64 (9-ax)], .agg #[.int .i64 b_y, .int .i64 (9-bx)], .agg #[.int .i64 cy, .int .i64 (9-cx)]] w fun e w' => e = .returned (.int .i64 (-1)) ∧ Below w.heap.size w w') := fun w => by have := turn_any ay (9-ax) b_y (9-bx) cy (9-cx) w; rw [r3] at this; exact this
    clear r1 r2 r3
    go_wp2_with fail
    refine (turn_any _ _ _ _ _ _ _).mono ?_
    rw [ht]
    rintro e w1 ⟨rfl, J⟩
    obtain ⟨hc, hf⟩ := bcell J
    go_wp2_with fail
    refine (sTurn_any _ _ _ _ _ _ _).mono ?_
    rw [ht]
    rintro e w1 ⟨rfl, J2⟩
    replace J := bw_trans J J2
    clear hc hf J2
    obtain ⟨hc, hf⟩ := bcell J
    go_upto_region 7 with fail
    replace S := keep J S
    replace T := keep J T
    replace U := keep J U
    replace BW := bw_trans BW J
    clear hc hf J zS zT zU fS0 fS1 fT0 fT1 fU0 fU1
    obtain ⟨u0, u1⟩ := reg_2 S
    obtain ⟨u2, u3⟩ := reg_2 T
    obtain ⟨u4, u5⟩ := reg_2 U
    refine wp_region_quiet_below (by kernel_rfl) (by kernel_rfl) ?_
    repeat (first | go_big_quiet_step (first | (go_at_call 16; with_reducible exact Calls.regrown_of (M0.out _)) | (go_at_call 16; with_reducible exact Calls.regrown_of (M1.out _)) | (go_at_call 16; with_reducible exact Calls.regrown_of (M2.out _)) | (go_at_call 14; with_reducible exact Calls.regrown_of (T1.out _))))
    refine wpQuiet_nil ?_
    intro _ hw'
    obtain ⟨⟨dq, osq⟩, hw''⟩ := hw'
    subst hw''
    have J := below_regrown w1 dq osq
    generalize grow (redrawn w1 dq) osq = v0 at J ⊢
    replace S := keep J S
    replace T := keep J T
    replace U := keep J U
    replace BW := bw_trans BW J
    clear J u0 u1 u2 u3 u4 u5
    go_upto_region 8 with fail
    obtain ⟨u0, u1⟩ := reg_2 S
    obtain ⟨u2, u3⟩ := reg_2 T
    obtain ⟨u4, u5⟩ := reg_2 U
    refine wp_region_quiet_below (by kernel_rfl) (by kernel_rfl) ?_
    repeat (first | go_big_quiet_step (first | (go_at_call 17; with_reducible exact Calls.regrown_of (S0.out _)) | (go_at_call 17; with_reducible exact Calls.regrown_of (S1.out _)) | (go_at_call 17; with_reducible exact Calls.regrown_of (S2.out _)) | (go_at_call 14; with_reducible exact Calls.regrown_of (T2.out _))))
    refine wpQuiet_nil ?_
    intro _ hw'
    obtain ⟨⟨dq, osq⟩, hw''⟩ := hw'
    subst hw''
    have J := below_regrown v0 dq osq
    generalize grow (redrawn v0 dq) osq = v1 at J ⊢
    replace S := keep J S
    replace T := keep J T
    replace U := keep J U
    replace BW := bw_trans BW J
    clear J u0 u1 u2 u3 u4 u5
    go_upto_region 9 with fail
    obtain ⟨u0, u1⟩ := reg_2 S
    obtain ⟨u2, u3⟩ := reg_2 T
    obtain ⟨u4, u5⟩ := reg_2 U
    refine wp_region_quiet_below (by kernel_rfl) (by kernel_rfl) ?_
    repeat (first | go_big_quiet_step (first | (go_at_call 16; with_reducible exact Calls.regrown_of (M0.out _)) | (go_at_call 16; with_reducible exact Calls.regrown_of (M1.out _)) | (go_at_call 16; with_reducible exact Calls.regrown_of (M2.out _)) | (go_at_call 17; with_reducible exact Calls.regrown_of (X0.out _)) | (go_at_call 17; with_reducible exact Calls.regrown_of (X1.out _)) | (go_at_call 17; with_reducible exact Calls.regrown_of (X2.out _)) | (go_at_call 14; with_reducible exact Calls.regrown_of (T3.out _))))
    refine wpQuiet_nil ?_
    intro _ hw'
    obtain ⟨⟨dq, osq⟩, hw''⟩ := hw'
    subst hw''
    have J := below_regrown v1 dq osq
    generalize grow (redrawn v1 dq) osq = v2 at J ⊢
    replace S := keep J S
    replace T := keep J T
    replace U := keep J U
    replace BW := bw_trans BW J
    clear J u0 u1 u2 u3 u4 u5
    go_wp2_with fail
    go_ret
    exact ⟨rfl, BW⟩
  · rw [ht] at r1 r2 r3
    have T1 : Hid (∀ w, Calls Try.prog 14 #[.agg #[.int .i64 (9-ax), .int .i64 ay], .agg #[.int .i64 (9-bx), .int .i64 b_y], .agg #[.int .i64 (9-cx), .int .i64 cy]] w fun e w' => e = .returned (.int .i64 (0)) ∧ Below w.heap.size w w') := fun w => by have := turn_any (9-ax) ay (9-bx) b_y (9-cx) cy w; rw [r1] at this; exact this
    have T2 : Hid (∀ w, Calls Try.prog 14 #[.agg #[.int .i64 ay, .int .i64 ax], .agg #[.int .i64 b_y, .int .i64 bx], .agg #[.int .i64 cy, .int .i64 cx]] w fun e w' => e = .returned (.int .i64 (0)) ∧ Below w.heap.size w w') := fun w => by have := turn_any ay ax b_y bx cy cx w; rw [r2] at this; exact this
    have T3 : Hid (∀ w, Calls Try.prog 14 #[.agg #[.int .i64 ay, .int .i64 (9-ax)], .agg #[.int .i64 b_y, .int .i64 (9-bx)], .agg #[.int .i64 cy, .int .i64 (9-cx)]] w fun e w' => e = .returned (.int .i64 (0)) ∧ Below w.heap.size w w') := fun w => by have := turn_any ay (9-ax) b_y (9-bx) cy (9-cx) w; rw [r3] at this; exact this
    clear r1 r2 r3
    go_wp2_with fail
    refine (turn_any _ _ _ _ _ _ _).mono ?_
    rw [ht]
    rintro e w1 ⟨rfl, J⟩
    obtain ⟨hc, hf⟩ := bcell J
    go_wp2_with fail
    refine (sTurn_any _ _ _ _ _ _ _).mono ?_
    rw [ht]
    rintro e w1 ⟨rfl, J2⟩
    replace J := bw_trans J J2
    clear hc hf J2
    obtain ⟨hc, hf⟩ := bcell J
    go_upto_region 7 with fail
    replace S := keep J S
    replace T := keep J T
    replace U := keep J U
    replace BW := bw_trans BW J
    clear hc hf J zS zT zU fS0 fS1 fT0 fT1 fU0 fU1
    obtain ⟨u0, u1⟩ := reg_2 S
    obtain ⟨u2, u3⟩ := reg_2 T
    obtain ⟨u4, u5⟩ := reg_2 U
    refine wp_region_quiet_below (by kernel_rfl) (by kernel_rfl) ?_
    repeat (first | go_big_quiet_step (first | (go_at_call 16; with_reducible exact Calls.regrown_of (M0.out _)) | (go_at_call 16; with_reducible exact Calls.regrown_of (M1.out _)) | (go_at_call 16; with_reducible exact Calls.regrown_of (M2.out _)) | (go_at_call 14; with_reducible exact Calls.regrown_of (T1.out _))))
    refine wpQuiet_nil ?_
    intro _ hw'
    obtain ⟨⟨dq, osq⟩, hw''⟩ := hw'
    subst hw''
    have J := below_regrown w1 dq osq
    generalize grow (redrawn w1 dq) osq = v0 at J ⊢
    replace S := keep J S
    replace T := keep J T
    replace U := keep J U
    replace BW := bw_trans BW J
    clear J u0 u1 u2 u3 u4 u5
    go_upto_region 8 with fail
    obtain ⟨u0, u1⟩ := reg_2 S
    obtain ⟨u2, u3⟩ := reg_2 T
    obtain ⟨u4, u5⟩ := reg_2 U
    refine wp_region_quiet_below (by kernel_rfl) (by kernel_rfl) ?_
    repeat (first | go_big_quiet_step (first | (go_at_call 17; with_reducible exact Calls.regrown_of (S0.out _)) | (go_at_call 17; with_reducible exact Calls.regrown_of (S1.out _)) | (go_at_call 17; with_reducible exact Calls.regrown_of (S2.out _)) | (go_at_call 14; with_reducible exact Calls.regrown_of (T2.out _))))
    refine wpQuiet_nil ?_
    intro _ hw'
    obtain ⟨⟨dq, osq⟩, hw''⟩ := hw'
    subst hw''
    have J := below_regrown v0 dq osq
    generalize grow (redrawn v0 dq) osq = v1 at J ⊢
    replace S := keep J S
    replace T := keep J T
    replace U := keep J U
    replace BW := bw_trans BW J
    clear J u0 u1 u2 u3 u4 u5
    go_upto_region 9 with fail
    obtain ⟨u0, u1⟩ := reg_2 S
    obtain ⟨u2, u3⟩ := reg_2 T
    obtain ⟨u4, u5⟩ := reg_2 U
    refine wp_region_quiet_below (by kernel_rfl) (by kernel_rfl) ?_
    repeat (first | go_big_quiet_step (first | (go_at_call 16; with_reducible exact Calls.regrown_of (M0.out _)) | (go_at_call 16; with_reducible exact Calls.regrown_of (M1.out _)) | (go_at_call 16; with_reducible exact Calls.regrown_of (M2.out _)) | (go_at_call 17; with_reducible exact Calls.regrown_of (X0.out _)) | (go_at_call 17; with_reducible exact Calls.regrown_of (X1.out _)) | (go_at_call 17; with_reducible exact Calls.regrown_of (X2.out _)) | (go_at_call 14; with_reducible exact Calls.regrown_of (T3.out _))))
    refine wpQuiet_nil ?_
    intro _ hw'
    obtain ⟨⟨dq, osq⟩, hw''⟩ := hw'
    subst hw''
    have J := below_regrown v1 dq osq
    generalize grow (redrawn v1 dq) osq = v2 at J ⊢
    replace S := keep J S
    replace T := keep J T
    replace U := keep J U
    replace BW := bw_trans BW J
    clear J u0 u1 u2 u3 u4 u5
    go_wp2_with fail
    go_ret
    exact ⟨rfl, BW⟩
  · rw [ht] at r1 r2 r3
    have T1 : Hid (∀ w, Calls Try.prog 14 #[.agg #[.int .i64 (9-ax), .int .i64 ay], .agg #[.int .i64 (9-bx), .int .i64 b_y], .agg #[.int .i64 (9-cx), .int .i64 cy]] w fun e w' => e = .returned (.int .i64 (-1)) ∧ Below w.heap.size w w') := fun w => by have := turn_any (9-ax) ay (9-bx) b_y (9-cx) cy w; rw [r1] at this; exact this
    have T2 : Hid (∀ w, Calls Try.prog 14 #[.agg #[.int .i64 ay, .int .i64 ax], .agg #[.int .i64 b_y, .int .i64 bx], .agg #[.int .i64 cy, .int .i64 cx]] w fun e w' => e = .returned (.int .i64 (-1)) ∧ Below w.heap.size w w') := fun w => by have := turn_any ay ax b_y bx cy cx w; rw [r2] at this; exact this
    have T3 : Hid (∀ w, Calls Try.prog 14 #[.agg #[.int .i64 ay, .int .i64 (9-ax)], .agg #[.int .i64 b_y, .int .i64 (9-bx)], .agg #[.int .i64 cy, .int .i64 (9-cx)]] w fun e w' => e = .returned (.int .i64 (1)) ∧ Below w.heap.size w w') := fun w => by have := turn_any ay (9-ax) b_y (9-bx) cy (9-cx) w; rw [r3] at this; exact this
    clear r1 r2 r3
    go_wp2_with fail
    refine (turn_any _ _ _ _ _ _ _).mono ?_
    rw [ht]
    rintro e w1 ⟨rfl, J⟩
    obtain ⟨hc, hf⟩ := bcell J
    go_wp2_with fail
    refine (sTurn_any _ _ _ _ _ _ _).mono ?_
    rw [ht]
    rintro e w1 ⟨rfl, J2⟩
    replace J := bw_trans J J2
    clear hc hf J2
    obtain ⟨hc, hf⟩ := bcell J
    go_upto_region 7 with fail
    replace S := keep J S
    replace T := keep J T
    replace U := keep J U
    replace BW := bw_trans BW J
    clear hc hf J zS zT zU fS0 fS1 fT0 fT1 fU0 fU1
    obtain ⟨u0, u1⟩ := reg_2 S
    obtain ⟨u2, u3⟩ := reg_2 T
    obtain ⟨u4, u5⟩ := reg_2 U
    refine wp_region_quiet_below (by kernel_rfl) (by kernel_rfl) ?_
    repeat (first | go_big_quiet_step (first | (go_at_call 16; with_reducible exact Calls.regrown_of (M0.out _)) | (go_at_call 16; with_reducible exact Calls.regrown_of (M1.out _)) | (go_at_call 16; with_reducible exact Calls.regrown_of (M2.out _)) | (go_at_call 14; with_reducible exact Calls.regrown_of (T1.out _))))
    refine wpQuiet_nil ?_
    intro _ hw'
    obtain ⟨⟨dq, osq⟩, hw''⟩ := hw'
    subst hw''
    have J := below_regrown w1 dq osq
    generalize grow (redrawn w1 dq) osq = v0 at J ⊢
    replace S := keep J S
    replace T := keep J T
    replace U := keep J U
    replace BW := bw_trans BW J
    clear J u0 u1 u2 u3 u4 u5
    go_upto_region 8 with fail
    obtain ⟨u0, u1⟩ := reg_2 S
    obtain ⟨u2, u3⟩ := reg_2 T
    obtain ⟨u4, u5⟩ := reg_2 U
    refine wp_region_quiet_below (by kernel_rfl) (by kernel_rfl) ?_
    repeat (first | go_big_quiet_step (first | (go_at_call 17; with_reducible exact Calls.regrown_of (S0.out _)) | (go_at_call 17; with_reducible exact Calls.regrown_of (S1.out _)) | (go_at_call 17; with_reducible exact Calls.regrown_of (S2.out _)) | (go_at_call 14; with_reducible exact Calls.regrown_of (T2.out _))))
    refine wpQuiet_nil ?_
    intro _ hw'
    obtain ⟨⟨dq, osq⟩, hw''⟩ := hw'
    subst hw''
    have J := below_regrown v0 dq osq
    generalize grow (redrawn v0 dq) osq = v1 at J ⊢
    replace S := keep J S
    replace T := keep J T
    replace U := keep J U
    replace BW := bw_trans BW J
    clear J u0 u1 u2 u3 u4 u5
    go_upto_region 9 with fail
    obtain ⟨u0, u1⟩ := reg_2 S
    obtain ⟨u2, u3⟩ := reg_2 T
    obtain ⟨u4, u5⟩ := reg_2 U
    refine wp_region_quiet_below (by kernel_rfl) (by kernel_rfl) ?_
    repeat (first | go_big_quiet_step (first | (go_at_call 16; with_reducible exact Calls.regrown_of (M0.out _)) | (go_at_call 16; with_reducible exact Calls.regrown_of (M1.out _)) | (go_at_call 16; with_reducible exact Calls.regrown_of (M2.out _)) | (go_at_call 17; with_reducible exact Calls.regrown_of (X0.out _)) | (go_at_call 17; with_reducible exact Calls.regrown_of (X1.out _)) | (go_at_call 17; with_reducible exact Calls.regrown_of (X2.out _)) | (go_at_call 14; with_reducible exact Calls.regrown_of (T3.out _))))
    refine wpQuiet_nil ?_
    intro _ hw'
    obtain ⟨⟨dq, osq⟩, hw''⟩ := hw'
    subst hw''
    have J := below_regrown v1 dq osq
    generalize grow (redrawn v1 dq) osq = v2 at J ⊢
    replace S := keep J S
    replace T := keep J T
    replace U := keep J U
    replace BW := bw_trans BW J
    clear J u0 u1 u2 u3 u4 u5
    go_wp2_with fail
    go_ret
    exact ⟨rfl, BW⟩
end Go.Proofs.Ytempleochkohlaa
