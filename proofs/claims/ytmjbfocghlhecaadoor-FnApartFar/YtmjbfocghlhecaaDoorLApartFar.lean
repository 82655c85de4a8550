/-
  OUR OWN TEXT. The law FnApartFar, walked: whatever bytes come in, it answers true and writes nothing that was there.
-/
import Derived.Test.YtmjbfocghlhecaaDoorDrawD
import Derived.Test.YtmjbfocghlhecaaDoorLuD
import Derived.Test.YtmjbfocghlhecaaDoorSApart
import Derived.Test.YtmjbfocghlhecaaDoorGeoParts
namespace Go.Proofs.YtmjbfocghlhecaaDoor
open Go.RowKit Go.Sort

theorem cmpV_le {f g : Int × Int} (hf : okB f.1 f.2 = true) (hg : okB g.1 g.2 = true) (h : f.1 * g.2 ≤ g.1 * f.2) : cmpV f.1 f.2 g.1 g.2 ≤ 0 := by
  unfold cmpV; rw [hf, hg]; show cmpI _ _ ≤ 0; unfold cmpI; split
  · omega
  · rw [if_neg (by omega)]; omega
theorem apartFar_long (w : World) (a0 : Option Addr) (len0 cap0 : Nat) (h : 1048576 < len0) :
    Calls Tryd.prog 11 #[.slice a0 len0 cap0] w fun e w' => e = .returned (.bool true) ∧ Below w.heap.size w w' := by
  go_enter Tryd.func11, Tryd.ntmps11
  go_wp2
  go_ret
  exact ⟨rfl, bw_refl _⟩
set_option maxHeartbeats 2000000 in
theorem apartFar_walk (w : World) (a0 : Option Addr) (len0 cap0 : Nat) (z0 : List Int) (r0 : IsRow .u8 w a0 len0 cap0 z0) (ad : Addr) (hs0 : Sent ad w) :
    Calls Tryd.prog 11 #[.slice a0 len0 cap0] w fun e w' => e = .returned (.bool true) ∧ Below w.heap.size w w' := by
  by_cases hl : 1048576 < len0
  · exact apartFar_long w a0 len0 cap0 hl
  have hl0 : len0 ≤ 1048576 := by omega
  clear hl
  go_enter Tryd.func11, Tryd.ntmps11
  go_wp2_with fail
  refine (drawApart_any w _ r0 (bw_refl _)).mono ?_
  rintro e w0 ⟨ax, ay, bx, b_y, cx, cy, ex, ey, rfl, b1⟩
  obtain ⟨W, hW, BW, S, T⟩ := boxes2 w0 (.cells #[.int .i64 ax, .int .i64 ay, .int .i64 bx, .int .i64 b_y] 26) (.cells #[.int .i64 cx, .int .i64 cy, .int .i64 ex, .int .i64 ey] 26)
  replace BW := bw_trans b1 BW
  clear b1
  go_upto_region 4 with fail
  rw [← hW]
  clear hW
  have hs := hs0.below BW
  have zS := blk_lt S
  obtain ⟨fS0, fS1, fS2, fS3⟩ := blk_4 S
  have zT := blk_lt T
  obtain ⟨fT0, fT1, fT2, fT3⟩ := blk_4 T
  clear hs0
  cases gs : sgB ax ay bx b_y
  · have e0 : apartV ax ay bx b_y cx cy ex ey = (0, 0) := by unfold apartV; rw [gs]; rfl
    have X0 := segApart_any ax ay bx b_y cx cy ex ey ad W hs
    have Y0 : Hid (∀ w, Calls Tryd.prog 28 #[.agg #[.int .i64 ax, .int .i64 ay, .int .i64 bx, .int .i64 b_y], .agg #[.int .i64 cx, .int .i64 cy, .int .i64 ex, .int .i64 ey]] w fun e w' => e = .returned (.agg #[.int .i64 0, .int .i64 0]) ∧ Below w.heap.size w w') := fun w => by have := sApart_any ax ay bx b_y cx cy ex ey w; rwa [e0] at this
    have G0 : Hid (∀ w, Calls Tryd.prog 17 #[.agg #[.int .i64 ax, .int .i64 ay, .int .i64 bx, .int .i64 b_y]] w fun e w' => e = .returned (.bool false) ∧ Below w.heap.size w w') := fun w => by have := sSeg_any ax ay bx b_y w; rwa [gs] at this
    rw [e0] at X0
    clear e0
    go_wp2_with fail
    refine (X0).mono ?_
    rintro e w1 ⟨rfl, J⟩
    obtain ⟨W1, hW1, B1, F⟩ := boxes1 w1 (.cells #[.int .i64 0, .int .i64 0] 34)
    replace B1 := bw_trans J B1
    replace S := keep B1 S
    replace T := keep B1 T
    replace BW := bw_trans BW B1
    replace hs := hs.below B1
    clear J B1 zS fS0 fS1 fS2 fS3 zT fT0 fT1 fT2 fT3
    clear X0
    go_upto_region 5 with fail
    rw [← hW1]
    clear hW1
    obtain ⟨uS0, uS1, uS2, uS3⟩ := reg_4 S
    obtain ⟨uT0, uT1, uT2, uT3⟩ := reg_4 T
    obtain ⟨uF0, uF1⟩ := reg_2 F
    refine wp_region_quiet_below (by kernel_rfl) (by kernel_rfl) ?_
    repeat (first | go_big_quiet_step (first | (go_at_call 28; with_reducible exact Calls.regrown_of (Y0.out _)) | (go_at_call 17; with_reducible exact Calls.regrown_of (G0.out _))))
    refine wpQuiet_nil ?_
    intro _ hw'
    obtain ⟨⟨dq, osq⟩, hw''⟩ := hw'
    subst hw''
    have J := below_regrown W1 dq osq
    generalize grow (redrawn W1 dq) osq = v1 at J ⊢
    replace S := keep J S
    replace T := keep J T
    replace F := keep J F
    replace BW := bw_trans BW J
    replace hs := hs.below J
    clear J uS0 uS1 uS2 uS3 uT0 uT1 uT2 uT3 uF0 uF1
    go_upto_region 6 with fail
    obtain ⟨uS0, uS1, uS2, uS3⟩ := reg_4 S
    obtain ⟨uT0, uT1, uT2, uT3⟩ := reg_4 T
    obtain ⟨uF0, uF1⟩ := reg_2 F
    refine wp_region_quiet_below (by kernel_rfl) (by kernel_rfl) ?_
    repeat (first | go_big_quiet_step (first | (go_at_call 28; with_reducible exact Calls.regrown_of (Y0.out _))))
    refine wpQuiet_nil ?_
    intro _ hw'
    obtain ⟨⟨dq, osq⟩, hw''⟩ := hw'
    subst hw''
    have J := below_regrown v1 dq osq
    generalize grow (redrawn v1 dq) osq = v2 at J ⊢
    replace S := keep J S
    replace T := keep J T
    replace F := keep J F
    replace BW := bw_trans BW J
    replace hs := hs.below J
    clear J uS0 uS1 uS2 uS3 uT0 uT1 uT2 uT3 uF0 uF1
    go_wp2_with fail
    go_ret
    exact ⟨rfl, BW⟩
  · skip
    cases gt : sgB cx cy ex ey
    · have e0 : apartV ax ay bx b_y cx cy ex ey = (0, 0) := by unfold apartV; rw [gs, gt]; rfl
      have X0 := segApart_any ax ay bx b_y cx cy ex ey ad W hs
      have Y0 : Hid (∀ w, Calls Tryd.prog 28 #[.agg #[.int .i64 ax, .int .i64 ay, .int .i64 bx, .int .i64 b_y], .agg #[.int .i64 cx, .int .i64 cy, .int .i64 ex, .int .i64 ey]] w fun e w' => e = .returned (.agg #[.int .i64 0, .int .i64 0]) ∧ Below w.heap.size w w') := fun w => by have := sApart_any ax ay bx b_y cx cy ex ey w; rwa [e0] at this
      have G0 : Hid (∀ w, Calls Tryd.prog 17 #[.agg #[.int .i64 ax, .int .i64 ay, .int .i64 bx, .int .i64 b_y]] w fun e w' => e = .returned (.bool true) ∧ Below w.heap.size w w') := fun w => by have := sSeg_any ax ay bx b_y w; rwa [gs] at this
      have G1 : Hid (∀ w, Calls Tryd.prog 17 #[.agg #[.int .i64 cx, .int .i64 cy, .int .i64 ex, .int .i64 ey]] w fun e w' => e = .returned (.bool false) ∧ Below w.heap.size w w') := fun w => by have := sSeg_any cx cy ex ey w; rwa [gt] at this
      rw [e0] at X0
      clear e0
      go_wp2_with fail
      refine (X0).mono ?_
      rintro e w1 ⟨rfl, J⟩
      obtain ⟨W1, hW1, B1, F⟩ := boxes1 w1 (.cells #[.int .i64 0, .int .i64 0] 34)
      replace B1 := bw_trans J B1
      replace S := keep B1 S
      replace T := keep B1 T
      replace BW := bw_trans BW B1
      replace hs := hs.below B1
      clear J B1 zS fS0 fS1 fS2 fS3 zT fT0 fT1 fT2 fT3
      clear X0
      go_upto_region 5 with fail
      rw [← hW1]
      clear hW1
      obtain ⟨uS0, uS1, uS2, uS3⟩ := reg_4 S
      obtain ⟨uT0, uT1, uT2, uT3⟩ := reg_4 T
      obtain ⟨uF0, uF1⟩ := reg_2 F
      refine wp_region_quiet_below (by kernel_rfl) (by kernel_rfl) ?_
      repeat (first | go_big_quiet_step (first | (go_at_call 28; with_reducible exact Calls.regrown_of (Y0.out _)) | (go_at_call 17; with_reducible exact Calls.regrown_of (G0.out _)) | (go_at_call 17; with_reducible exact Calls.regrown_of (G1.out _))))
      refine wpQuiet_nil ?_
      intro _ hw'
      obtain ⟨⟨dq, osq⟩, hw''⟩ := hw'
      subst hw''
      have J := below_regrown W1 dq osq
      generalize grow (redrawn W1 dq) osq = v1 at J ⊢
      replace S := keep J S
      replace T := keep J T
      replace F := keep J F
      replace BW := bw_trans BW J
      replace hs := hs.below J
      clear J uS0 uS1 uS2 uS3 uT0 uT1 uT2 uT3 uF0 uF1
      go_upto_region 6 with fail
      obtain ⟨uS0, uS1, uS2, uS3⟩ := reg_4 S
      obtain ⟨uT0, uT1, uT2, uT3⟩ := reg_4 T
      obtain ⟨uF0, uF1⟩ := reg_2 F
      refine wp_region_quiet_below (by kernel_rfl) (by kernel_rfl) ?_
      repeat (first | go_big_quiet_step (first | (go_at_call 28; with_reducible exact Calls.regrown_of (Y0.out _))))
      refine wpQuiet_nil ?_
      intro _ hw'
      obtain ⟨⟨dq, osq⟩, hw''⟩ := hw'
      subst hw''
      have J := below_regrown v1 dq osq
      generalize grow (redrawn v1 dq) osq = v2 at J ⊢
      replace S := keep J S
      replace T := keep J T
      replace F := keep J F
      replace BW := bw_trans BW J
      replace hs := hs.below J
      clear J uS0 uS1 uS2 uS3 uT0 uT1 uT2 uT3 uF0 uF1
      go_wp2_with fail
      go_ret
      exact ⟨rfl, BW⟩
    · skip
      obtain ⟨pa, pb, hd⟩ := sg_parts gs
      obtain ⟨pc, pd, hd2⟩ := sg_parts gt
      have hok := apart_ok gs gt
      have X0 := segApart_ok ax ay bx b_y cx cy ex ey ad W hs gs gt
      have Y0 : Hid (∀ w, Calls Tryd.prog 28 #[.agg #[.int .i64 ax, .int .i64 ay, .int .i64 bx, .int .i64 b_y], .agg #[.int .i64 cx, .int .i64 cy, .int .i64 ex, .int .i64 ey]] w fun e w' => e = .returned (.agg #[.int .i64 (apart ax ay bx b_y cx cy ex ey).1, .int .i64 (apart ax ay bx b_y cx cy ex ey).2]) ∧ Below w.heap.size w w') := fun w => by have := sApart_any ax ay bx b_y cx cy ex ey w; rwa [apartV_ok gs gt] at this
      have G0 : Hid (∀ w, Calls Tryd.prog 17 #[.agg #[.int .i64 ax, .int .i64 ay, .int .i64 bx, .int .i64 b_y]] w fun e w' => e = .returned (.bool true) ∧ Below w.heap.size w w') := fun w => by have := sSeg_any ax ay bx b_y w; rwa [gs] at this
      have G1 : Hid (∀ w, Calls Tryd.prog 17 #[.agg #[.int .i64 cx, .int .i64 cy, .int .i64 ex, .int .i64 ey]] w fun e w' => e = .returned (.bool true) ∧ Below w.heap.size w w') := fun w => by have := sSeg_any cx cy ex ey w; rwa [gt] at this
      go_wp2_with fail
      refine (X0).mono ?_
      rintro e w1 ⟨rfl, J⟩
      obtain ⟨W1, hW1, B1, F⟩ := boxes1 w1 (.cells #[.int .i64 (apart ax ay bx b_y cx cy ex ey).1, .int .i64 (apart ax ay bx b_y cx cy ex ey).2] 34)
      replace B1 := bw_trans J B1
      replace S := keep B1 S
      replace T := keep B1 T
      replace BW := bw_trans BW B1
      replace hs := hs.below B1
      clear J B1 zS fS0 fS1 fS2 fS3 zT fT0 fT1 fT2 fT3
      clear X0
      go_upto_region 5 with fail
      rw [← hW1]
      clear hW1
      obtain ⟨uS0, uS1, uS2, uS3⟩ := reg_4 S
      obtain ⟨uT0, uT1, uT2, uT3⟩ := reg_4 T
      obtain ⟨uF0, uF1⟩ := reg_2 F
      refine wp_region_quiet_below (by kernel_rfl) (by kernel_rfl) ?_
      repeat (first | go_big_quiet_step (first | (go_at_call 28; with_reducible exact Calls.regrown_of (Y0.out _)) | (go_at_call 17; with_reducible exact Calls.regrown_of (G0.out _)) | (go_at_call 17; with_reducible exact Calls.regrown_of (G1.out _))))
      refine wpQuiet_nil ?_
      intro _ hw'
      obtain ⟨⟨dq, osq⟩, hw''⟩ := hw'
      subst hw''
      have J := below_regrown W1 dq osq
      generalize grow (redrawn W1 dq) osq = v1 at J ⊢
      replace S := keep J S
      replace T := keep J T
      replace F := keep J F
      replace BW := bw_trans BW J
      replace hs := hs.below J
      clear J uS0 uS1 uS2 uS3 uT0 uT1 uT2 uT3 uF0 uF1
      clear Y0 G0 G1
      go_wp2_with fail
      go_loopw [6] (fun a wr => ∃ x : Int, 0 ≤ x ∧ x ≤ 10 ∧ a = .int .i64 x ∧ Below v1.heap.size v1 wr) (fun a _ => (10 - intOf a).toNat)
      case atStart => exact ⟨0, by omega, by omega, rfl, bw_refl _⟩
      case round =>
        obtain ⟨x, x0, x1, rfl, HX⟩ := hrel
        by_cases x9 : x ≤ 9
        · go_wp2_with fail
          go_loopw [7] (fun a wr => ∃ y : Int, 0 ≤ y ∧ y ≤ 10 ∧ a = .int .i64 y ∧ Below v1.heap.size v1 wr) (fun a _ => (10 - intOf a).toNat)
          case atStart => exact ⟨0, by omega, by omega, rfl, HX⟩
          case round =>
            obtain ⟨y, y0, y1, rfl, HY⟩ := hrel
            by_cases y9 : y ≤ 9
            · have gq : ptB x y = true := (ptB_iff _ _).2 ⟨x0, x9, y0, y9⟩
              replace S := keep HY S
              replace T := keep HY T
              replace F := keep HY F
              replace hs := hs.below HY
              obtain ⟨V, hV, BV, QB⟩ := boxes1 _ (.cells #[.int .i64 x, .int .i64 y] 24)
              replace HY := bw_trans HY BV
              replace S := keep BV S
              replace T := keep BV T
              replace F := keep BV F
              replace hs := hs.below BV
              clear BV BW HX
              have BW := HY
              clear HY
              go_upto_region 14 with fail
              rw [← hV]
              clear hV
              have HQ : Hid (∀ w, Calls Tryd.prog 15 #[.agg #[.int .i64 ax, .int .i64 ay, .int .i64 bx, .int .i64 b_y], .agg #[.int .i64 x, .int .i64 y]] w fun e w' => e = .returned (.bool (hasC ax ay bx b_y x y)) ∧ Below w.heap.size w w') := fun w => has_ok _ _ _ _ _ _ w gs gq
              cases hh : hasC ax ay bx b_y x y
              · rw [hh] at HQ
                obtain ⟨uS0, uS1, uS2, uS3⟩ := reg_4 S
                obtain ⟨uT0, uT1, uT2, uT3⟩ := reg_4 T
                obtain ⟨uF0, uF1⟩ := reg_2 F
                obtain ⟨uQB0, uQB1⟩ := reg_2 QB
                refine wp_region_quiet_below (by kernel_rfl) (by kernel_rfl) ?_
                repeat (first | go_big_quiet_step (first | (go_at_call 15; with_reducible exact Calls.regrown_of (HQ.out _))))
                refine wpQuiet_nil ?_
                intro _ hw'
                obtain ⟨⟨dq, osq⟩, hw''⟩ := hw'
                subst hw''
                have J := below_regrown V dq osq
                generalize grow (redrawn V dq) osq = v2 at J ⊢
                replace S := keep J S
                replace T := keep J T
                replace F := keep J F
                replace QB := keep J QB
                replace BW := bw_trans BW J
                replace hs := hs.below J
                clear J uS0 uS1 uS2 uS3 uT0 uT1 uT2 uT3 uF0 uF1 uQB0 uQB1
                go_wp2_with fail
                exact ⟨⟨y + 1, by omega, by omega, by go_num, BW⟩, by simp [intOf]; omega⟩
              · rw [hh] at HQ
                have c1 := cmpV_le hok (far_ok gt gq) (apart_far gs gt gq hh)
                have Q1 : Hid (∀ w, Sent ad w → Calls Tryd.prog 20 #[.agg #[.int .i64 cx, .int .i64 cy, .int .i64 ex, .int .i64 ey], .agg #[.int .i64 x, .int .i64 y]] w fun e w' => e = .returned (.agg #[.int .i64 (far cx cy ex ey x y).1, .int .i64 (far cx cy ex ey x y).2]) ∧ Below w.heap.size w w') := fun w hs => segFar_ok _ _ _ _ _ _ ad w hs gt gq
                have Q2 : Hid (∀ w, Sent ad w → Calls Tryd.prog 32 #[.agg #[.int .i64 (apart ax ay bx b_y cx cy ex ey).1, .int .i64 (apart ax ay bx b_y cx cy ex ey).2], .agg #[.int .i64 (far cx cy ex ey x y).1, .int .i64 (far cx cy ex ey x y).2]] w fun e w' => e = .returned (.int .i64 (cmpV (apart ax ay bx b_y cx cy ex ey).1 (apart ax ay bx b_y cx cy ex ey).2 (far cx cy ex ey x y).1 (far cx cy ex ey x y).2)) ∧ Below w.heap.size w w') := fun w hs => fracCmp_any _ _ _ _ ad w hs
                generalize cmpV (apart ax ay bx b_y cx cy ex ey).1 (apart ax ay bx b_y cx cy ex ey).2 (far cx cy ex ey x y).1 (far cx cy ex ey x y).2 = kk at *
                obtain ⟨uS0, uS1, uS2, uS3⟩ := reg_4 S
                obtain ⟨uT0, uT1, uT2, uT3⟩ := reg_4 T
                obtain ⟨uF0, uF1⟩ := reg_2 F
                obtain ⟨uQB0, uQB1⟩ := reg_2 QB
                refine wp_region_quiet_below (by kernel_rfl) (by kernel_rfl) ?_
                repeat (first | go_big_quiet_step (first | (go_at_call 15; with_reducible exact Calls.regrown_of (HQ.out _)) | (go_at_call 20; with_reducible exact Calls.regrown_of (Q1.out _ (hs.below (below_regrown _ _ _)))) | (go_at_call 32; with_reducible exact Calls.regrown_of (Q2.out _ (hs.below (below_regrown _ _ _))))))
                refine wpQuiet_nil ?_
                intro _ hw'
                obtain ⟨⟨dq, osq⟩, hw''⟩ := hw'
                subst hw''
                have J := below_regrown V dq osq
                generalize grow (redrawn V dq) osq = v2 at J ⊢
                replace S := keep J S
                replace T := keep J T
                replace F := keep J F
                replace QB := keep J QB
                replace BW := bw_trans BW J
                replace hs := hs.below J
                clear J uS0 uS1 uS2 uS3 uT0 uT1 uT2 uT3 uF0 uF1 uQB0 uQB1
                go_wp2_with fail
                exact ⟨⟨y + 1, by omega, by omega, by go_num, BW⟩, by simp [intOf]; omega⟩
            · go_wp2_with fail
              exact ⟨⟨x + 1, by omega, by omega, by go_num, HY⟩, by simp [intOf]; omega⟩
        · go_wp2_with fail
          go_ret
          exact ⟨rfl, bw_trans BW HX⟩
end Go.Proofs.YtmjbfocghlhecaaDoor
