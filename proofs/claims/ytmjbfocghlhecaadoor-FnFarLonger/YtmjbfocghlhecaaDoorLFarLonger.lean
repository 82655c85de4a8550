/-
  OUR OWN TEXT. The law FnFarLonger, walked: whatever bytes come in, it answers true and writes nothing that was there.
-/
import Derived.Test.YtmjbfocghlhecaaDoorDrawD
import Derived.Test.YtmjbfocghlhecaaDoorLuD
import Derived.Test.YtmjbfocghlhecaaDoorFarAny
import Derived.Test.YtmjbfocghlhecaaDoorSFar
namespace Go.Proofs.YtmjbfocghlhecaaDoor
open Go.RowKit Go.Sort

theorem cmpV_le {f g : Int × Int} (hf : okB f.1 f.2 = true) (hg : okB g.1 g.2 = true) (h : f.1 * g.2 ≤ g.1 * f.2) : cmpV f.1 f.2 g.1 g.2 ≤ 0 := by
  unfold cmpV; rw [hf, hg]; show cmpI _ _ ≤ 0; unfold cmpI; split
  · omega
  · rw [if_neg (by omega)]; omega
theorem has_longer (ax ay bx b_y : Int) : hasC ax ay (2*bx-ax) (2*b_y-ay) bx b_y = true := by
  rw [hasC_iff]
  have p1 := sq_nonneg (bx - ax)
  have p2 := sq_nonneg (b_y - ay)
  have e1 : crs ax ay (2*bx-ax) (2*b_y-ay) bx b_y = 0 := by unfold crs; grind
  have e2 : dt bx b_y ax ay (2*bx-ax) (2*b_y-ay) = -((bx - ax) * (bx - ax)) - (b_y - ay) * (b_y - ay) := by unfold dt; grind
  exact ⟨e1, by omega⟩
theorem farLonger_long (w : World) (a0 : Option Addr) (len0 cap0 : Nat) (h : 1048576 < len0) :
    Calls Tryd.prog 7 #[.slice a0 len0 cap0] w fun e w' => e = .returned (.bool true) ∧ Below w.heap.size w w' := by
  go_enter Tryd.func7, Tryd.ntmps7
  go_wp2
  go_ret
  exact ⟨rfl, bw_refl _⟩
set_option maxHeartbeats 2000000 in
theorem farLonger_walk (w : World) (a0 : Option Addr) (len0 cap0 : Nat) (z0 : List Int) (r0 : IsRow .u8 w a0 len0 cap0 z0) (ad : Addr) (hs0 : Sent ad w) :
    Calls Tryd.prog 7 #[.slice a0 len0 cap0] w fun e w' => e = .returned (.bool true) ∧ Below w.heap.size w w' := by
  by_cases hl : 1048576 < len0
  · exact farLonger_long w a0 len0 cap0 hl
  have hl0 : len0 ≤ 1048576 := by omega
  clear hl
  go_enter Tryd.func7, Tryd.ntmps7
  go_wp2_with fail
  refine (drawFar_any w _ r0 (bw_refl _)).mono ?_
  rintro e w0 ⟨ax, ay, bx, b_y, px, py, rfl, b1⟩
  obtain ⟨W, hW, BW, S, T⟩ := boxes2 w0 (.cells #[.int .i64 ax, .int .i64 ay, .int .i64 bx, .int .i64 b_y] 26) (.cells #[.int .i64 px, .int .i64 py] 24)
  replace BW := bw_trans b1 BW
  clear b1
  go_upto_region 4 with fail
  rw [← hW]
  clear hW
  have hs := hs0.below BW
  have zS := blk_lt S
  obtain ⟨fS0, fS1, fS2, fS3⟩ := blk_4 S
  have zT := blk_lt T
  obtain ⟨fT0, fT1⟩ := blk_2 T
  clear hs0
  cases gs : sgB ax ay bx b_y
  · have e0 : farV ax ay bx b_y px py = (0, 0) := by unfold farV; rw [gs]; rfl
    have X0 := segFar_any ax ay bx b_y px py ad W hs
    have Y0 : Hid (∀ w, Calls Tryd.prog 23 #[.agg #[.int .i64 ax, .int .i64 ay, .int .i64 bx, .int .i64 b_y], .agg #[.int .i64 px, .int .i64 py]] w fun e w' => e = .returned (.agg #[.int .i64 0, .int .i64 0]) ∧ Below w.heap.size w w') := fun w => by have := sFar_any ax ay bx b_y px py w; rwa [e0] at this
    have G0 : Hid (∀ w, Calls Tryd.prog 17 #[.agg #[.int .i64 ax, .int .i64 ay, .int .i64 bx, .int .i64 b_y]] w fun e w' => e = .returned (.bool false) ∧ Below w.heap.size w w') := fun w => by have := sSeg_any ax ay bx b_y w; rwa [gs] at this
    rw [e0] at X0
    clear e0
    go_wp2_with fail
    refine (X0).mono ?_
    rintro e w1 ⟨rfl, J⟩
    obtain ⟨W1, hW1, B1, F⟩ := boxes1 w1 (.cells #[.int .i64 0, .int .i64 0] 34)
    replace B1 := bw_trans J B1
    replace S := keep B1 S
    replace T := keep B1 T
    replace BW := bw_trans BW B1
    replace hs := hs.below B1
    clear J B1 zS fS0 fS1 fS2 fS3 zT fT0 fT1
    clear X0
    go_upto_region 5 with fail
    rw [← hW1]
    clear hW1
    obtain ⟨uS0, uS1, uS2, uS3⟩ := reg_4 S
    obtain ⟨uT0, uT1⟩ := reg_2 T
    obtain ⟨uF0, uF1⟩ := reg_2 F
    refine wp_region_quiet_below (by kernel_rfl) (by kernel_rfl) ?_
    repeat (first | go_big_quiet_step (first | (go_at_call 23; with_reducible exact Calls.regrown_of (Y0.out _)) | (go_at_call 17; with_reducible exact Calls.regrown_of (G0.out _))))
    refine wpQuiet_nil ?_
    intro _ hw'
    obtain ⟨⟨dq, osq⟩, hw''⟩ := hw'
    subst hw''
    have J := below_regrown W1 dq osq
    generalize grow (redrawn W1 dq) osq = v1 at J ⊢
    replace S := keep J S
    replace T := keep J T
    replace F := keep J F
    replace BW := bw_trans BW J
    replace hs := hs.below J
    clear J uS0 uS1 uS2 uS3 uT0 uT1 uF0 uF1
    go_upto_region 6 with fail
    obtain ⟨uS0, uS1, uS2, uS3⟩ := reg_4 S
    obtain ⟨uT0, uT1⟩ := reg_2 T
    obtain ⟨uF0, uF1⟩ := reg_2 F
    refine wp_region_quiet_below (by kernel_rfl) (by kernel_rfl) ?_
    repeat (first | go_big_quiet_step (first | (go_at_call 23; with_reducible exact Calls.regrown_of (Y0.out _))))
    refine wpQuiet_nil ?_
    intro _ hw'
    obtain ⟨⟨dq, osq⟩, hw''⟩ := hw'
    subst hw''
    have J := below_regrown v1 dq osq
    generalize grow (redrawn v1 dq) osq = v2 at J ⊢
    replace S := keep J S
    replace T := keep J T
    replace F := keep J F
    replace BW := bw_trans BW J
    replace hs := hs.below J
    clear J uS0 uS1 uS2 uS3 uT0 uT1 uF0 uF1
    go_wp2_with fail
    go_ret
    exact ⟨rfl, BW⟩
  · skip
    cases gp : ptB px py
    · have e0 : farV ax ay bx b_y px py = (0, 0) := by unfold farV; rw [gs, gp]; rfl
      have X0 := segFar_any ax ay bx b_y px py ad W hs
      have Y0 : Hid (∀ w, Calls Tryd.prog 23 #[.agg #[.int .i64 ax, .int .i64 ay, .int .i64 bx, .int .i64 b_y], .agg #[.int .i64 px, .int .i64 py]] w fun e w' => e = .returned (.agg #[.int .i64 0, .int .i64 0]) ∧ Below w.heap.size w w') := fun w => by have := sFar_any ax ay bx b_y px py w; rwa [e0] at this
      have G0 : Hid (∀ w, Calls Tryd.prog 17 #[.agg #[.int .i64 ax, .int .i64 ay, .int .i64 bx, .int .i64 b_y]] w fun e w' => e = .returned (.bool true) ∧ Below w.heap.size w w') := fun w => by have := sSeg_any ax ay bx b_y w; rwa [gs] at this
      have G1 : Hid (∀ w, Calls Tryd.prog 18 #[.agg #[.int .i64 px, .int .i64 py]] w fun e w' => e = .returned (.bool false) ∧ Below w.heap.size w w') := fun w => by have := sPt_any px py w; rwa [gp] at this
      rw [e0] at X0
      clear e0
      go_wp2_with fail
      refine (X0).mono ?_
      rintro e w1 ⟨rfl, J⟩
      obtain ⟨W1, hW1, B1, F⟩ := boxes1 w1 (.cells #[.int .i64 0, .int .i64 0] 34)
      replace B1 := bw_trans J B1
      replace S := keep B1 S
      replace T := keep B1 T
      replace BW := bw_trans BW B1
      replace hs := hs.below B1
      clear J B1 zS fS0 fS1 fS2 fS3 zT fT0 fT1
      clear X0
      go_upto_region 5 with fail
      rw [← hW1]
      clear hW1
      obtain ⟨uS0, uS1, uS2, uS3⟩ := reg_4 S
      obtain ⟨uT0, uT1⟩ := reg_2 T
      obtain ⟨uF0, uF1⟩ := reg_2 F
      refine wp_region_quiet_below (by kernel_rfl) (by kernel_rfl) ?_
      repeat (first | go_big_quiet_step (first | (go_at_call 23; with_reducible exact Calls.regrown_of (Y0.out _)) | (go_at_call 17; with_reducible exact Calls.regrown_of (G0.out _)) | (go_at_call 18; with_reducible exact Calls.regrown_of (G1.out _))))
      refine wpQuiet_nil ?_
      intro _ hw'
      obtain ⟨⟨dq, osq⟩, hw''⟩ := hw'
      subst hw''
      have J := below_regrown W1 dq osq
      generalize grow (redrawn W1 dq) osq = v1 at J ⊢
      replace S := keep J S
      replace T := keep J T
      replace F := keep J F
      replace BW := bw_trans BW J
      replace hs := hs.below J
      clear J uS0 uS1 uS2 uS3 uT0 uT1 uF0 uF1
      go_upto_region 6 with fail
      obtain ⟨uS0, uS1, uS2, uS3⟩ := reg_4 S
      obtain ⟨uT0, uT1⟩ := reg_2 T
      obtain ⟨uF0, uF1⟩ := reg_2 F
      refine wp_region_quiet_below (by kernel_rfl) (by kernel_rfl) ?_
      repeat (first | go_big_quiet_step (first | (go_at_call 23; with_reducible exact Calls.regrown_of (Y0.out _))))
      refine wpQuiet_nil ?_
      intro _ hw'
      obtain ⟨⟨dq, osq⟩, hw''⟩ := hw'
      subst hw''
      have J := below_regrown v1 dq osq
      generalize grow (redrawn v1 dq) osq = v2 at J ⊢
      replace S := keep J S
      replace T := keep J T
      replace F := keep J F
      replace BW := bw_trans BW J
      replace hs := hs.below J
      clear J uS0 uS1 uS2 uS3 uT0 uT1 uF0 uF1
      go_wp2_with fail
      go_ret
      exact ⟨rfl, BW⟩
    · skip
      obtain ⟨pa, pb, hd⟩ := sg_parts gs
      have hok := far_ok gs gp
      have X0 := segFar_ok ax ay bx b_y px py ad W hs gs gp
      have Y0 : Hid (∀ w, Calls Tryd.prog 23 #[.agg #[.int .i64 ax, .int .i64 ay, .int .i64 bx, .int .i64 b_y], .agg #[.int .i64 px, .int .i64 py]] w fun e w' => e = .returned (.agg #[.int .i64 (far ax ay bx b_y px py).1, .int .i64 (far ax ay bx b_y px py).2]) ∧ Below w.heap.size w w') := fun w => by have := sFar_any ax ay bx b_y px py w; rwa [farV_ok gs gp] at this
      have G0 : Hid (∀ w, Calls Tryd.prog 17 #[.agg #[.int .i64 ax, .int .i64 ay, .int .i64 bx, .int .i64 b_y]] w fun e w' => e = .returned (.bool true) ∧ Below w.heap.size w w') := fun w => by have := sSeg_any ax ay bx b_y w; rwa [gs] at this
      have G1 : Hid (∀ w, Calls Tryd.prog 18 #[.agg #[.int .i64 px, .int .i64 py]] w fun e w' => e = .returned (.bool true) ∧ Below w.heap.size w w') := fun w => by have := sPt_any px py w; rwa [gp] at this
      go_wp2_with fail
      refine (X0).mono ?_
      rintro e w1 ⟨rfl, J⟩
      obtain ⟨W1, hW1, B1, F⟩ := boxes1 w1 (.cells #[.int .i64 (far ax ay bx b_y px py).1, .int .i64 (far ax ay bx b_y px py).2] 34)
      replace B1 := bw_trans J B1
      replace S := keep B1 S
      replace T := keep B1 T
      replace BW := bw_trans BW B1
      replace hs := hs.below B1
      clear J B1 zS fS0 fS1 fS2 fS3 zT fT0 fT1
      clear X0
      go_upto_region 5 with fail
      rw [← hW1]
      clear hW1
      obtain ⟨uS0, uS1, uS2, uS3⟩ := reg_4 S
      obtain ⟨uT0, uT1⟩ := reg_2 T
      obtain ⟨uF0, uF1⟩ := reg_2 F
      refine wp_region_quiet_below (by kernel_rfl) (by kernel_rfl) ?_
      repeat (first | go_big_quiet_step (first | (go_at_call 23; with_reducible exact Calls.regrown_of (Y0.out _)) | (go_at_call 17; with_reducible exact Calls.regrown_of (G0.out _)) | (go_at_call 18; with_reducible exact Calls.regrown_of (G1.out _))))
      refine wpQuiet_nil ?_
      intro _ hw'
      obtain ⟨⟨dq, osq⟩, hw''⟩ := hw'
      subst hw''
      have J := below_regrown W1 dq osq
      generalize grow (redrawn W1 dq) osq = v1 at J ⊢
      replace S := keep J S
      replace T := keep J T
      replace F := keep J F
      replace BW := bw_trans BW J
      replace hs := hs.below J
      clear J uS0 uS1 uS2 uS3 uT0 uT1 uF0 uF1
      clear Y0 G0 G1
      have hA := (ptB_iff _ _).1 pa
      have hB := (ptB_iff _ _).1 pb
      have zS := blk_lt S
      obtain ⟨fS0, fS1, fS2, fS3⟩ := blk_4 S
      have zT := blk_lt T
      obtain ⟨fT0, fT1⟩ := blk_2 T
      have zF := blk_lt F
      obtain ⟨fF0, fF1⟩ := blk_2 F
      go_upto_region 8 with fail
      obtain ⟨V, hV, BV, S2⟩ := boxes1 v1 (.cells #[.int .i64 ax, .int .i64 ay, .int .i64 (2*bx-ax), .int .i64 (2*b_y-ay)] 26)
      rw [← hV]
      clear hV
      clear zS fS0 fS1 fS2 fS3 zT fT0 fT1 zF fF0 fF1
      replace S := keep BV S
      replace T := keep BV T
      replace F := keep BV F
      replace BW := bw_trans BW BV
      replace hs := hs.below BV
      clear BV
      cases h1 : sgB ax ay (2*bx-ax) (2*b_y-ay)
      · have zS := blk_lt S
        obtain ⟨fS0, fS1, fS2, fS3⟩ := blk_4 S
        have zT := blk_lt T
        obtain ⟨fT0, fT1⟩ := blk_2 T
        have zF := blk_lt F
        obtain ⟨fF0, fF1⟩ := blk_2 F
        have zS2 := blk_lt S2
        obtain ⟨fS20, fS21, fS22, fS23⟩ := blk_4 S2
        go_wp2_with fail
        refine (segOk_any _ _ _ _ _).mono ?_
        rw [h1]
        rintro e v2 ⟨rfl, J⟩
        replace S := keep J S
        replace T := keep J T
        replace F := keep J F
        replace S2 := keep J S2
        replace BW := bw_trans BW J
        replace hs := hs.below J
        clear J
        clear zS fS0 fS1 fS2 fS3 zT fT0 fT1 zF fF0 fF1 zS2 fS20 fS21 fS22 fS23
        go_wp2_with fail
        go_ret
        exact ⟨rfl, BW⟩
      · have hok2 := far_ok h1 gp
        have hle : (far ax ay (2*bx-ax) (2*b_y-ay) px py).1 * (far ax ay bx b_y px py).2 ≤ (far ax ay bx b_y px py).1 * (far ax ay (2*bx-ax) (2*b_y-ay) px py).2 := far_le h1 gp (raw_ge (far_raw gs gp) (farR_pos px py hd).2 (far_pos gs gp).2 (by have := farR_longer ax ay bx b_y px py hd; exact this))
        have c1 := cmpV_le hok2 hok hle
        have hh := has_longer ax ay bx b_y
        have Q1 : Hid (∀ w, Sent ad w → Calls Tryd.prog 20 #[.agg #[.int .i64 ax, .int .i64 ay, .int .i64 (2*bx-ax), .int .i64 (2*b_y-ay)], .agg #[.int .i64 px, .int .i64 py]] w fun e w' => e = .returned (.agg #[.int .i64 (far ax ay (2*bx-ax) (2*b_y-ay) px py).1, .int .i64 (far ax ay (2*bx-ax) (2*b_y-ay) px py).2]) ∧ Below w.heap.size w w') := fun w hs => segFar_ok _ _ _ _ _ _ ad w hs h1 gp
        have Q2 : Hid (∀ w, Sent ad w → Calls Tryd.prog 32 #[.agg #[.int .i64 (far ax ay (2*bx-ax) (2*b_y-ay) px py).1, .int .i64 (far ax ay (2*bx-ax) (2*b_y-ay) px py).2], .agg #[.int .i64 (far ax ay bx b_y px py).1, .int .i64 (far ax ay bx b_y px py).2]] w fun e w' => e = .returned (.int .i64 (cmpV (far ax ay (2*bx-ax) (2*b_y-ay) px py).1 (far ax ay (2*bx-ax) (2*b_y-ay) px py).2 (far ax ay bx b_y px py).1 (far ax ay bx b_y px py).2)) ∧ Below w.heap.size w w') := fun w hs => fracCmp_any _ _ _ _ ad w hs
        have Q3 : Hid (∀ w, Calls Tryd.prog 15 #[.agg #[.int .i64 ax, .int .i64 ay, .int .i64 (2*bx-ax), .int .i64 (2*b_y-ay)], .agg #[.int .i64 bx, .int .i64 b_y]] w fun e w' => e = .returned (.bool true) ∧ Below w.heap.size w w') := fun w => by have := has_ok ax ay (2*bx-ax) (2*b_y-ay) bx b_y w h1 pb; rwa [hh] at this
        generalize cmpV (far ax ay (2*bx-ax) (2*b_y-ay) px py).1 (far ax ay (2*bx-ax) (2*b_y-ay) px py).2 (far ax ay bx b_y px py).1 (far ax ay bx b_y px py).2 = k1 at *
        clear hok2 hle hh hok hd gs gp pa
        have zS := blk_lt S
        obtain ⟨fS0, fS1, fS2, fS3⟩ := blk_4 S
        have zT := blk_lt T
        obtain ⟨fT0, fT1⟩ := blk_2 T
        have zF := blk_lt F
        obtain ⟨fF0, fF1⟩ := blk_2 F
        have zS2 := blk_lt S2
        obtain ⟨fS20, fS21, fS22, fS23⟩ := blk_4 S2
        go_wp2_with fail
        refine (segOk_any _ _ _ _ _).mono ?_
        rw [h1]
        rintro e v2 ⟨rfl, J⟩
        replace S := keep J S
        replace T := keep J T
        replace F := keep J F
        replace S2 := keep J S2
        replace BW := bw_trans BW J
        replace hs := hs.below J
        clear J
        clear zS fS0 fS1 fS2 fS3 zT fT0 fT1 zF fF0 fF1 zS2 fS20 fS21 fS22 fS23
        go_upto_region 10 with fail
        obtain ⟨uS0, uS1, uS2, uS3⟩ := reg_4 S
        obtain ⟨uT0, uT1⟩ := reg_2 T
        obtain ⟨uF0, uF1⟩ := reg_2 F
        obtain ⟨uS20, uS21, uS22, uS23⟩ := reg_4 S2
        refine wp_region_quiet_below (by kernel_rfl) (by kernel_rfl) ?_
        repeat (first | go_big_quiet_step (first | (go_at_call 20; with_reducible exact Calls.regrown_of (Q1.out _ (hs.below (below_regrown _ _ _)))) | (go_at_call 32; with_reducible exact Calls.regrown_of (Q2.out _ (hs.below (below_regrown _ _ _)))) | (go_at_call 15; with_reducible exact Calls.regrown_of (Q3.out _))))
        refine wpQuiet_nil ?_
        intro _ hw'
        obtain ⟨⟨dq, osq⟩, hw''⟩ := hw'
        subst hw''
        have J := below_regrown v2 dq osq
        generalize grow (redrawn v2 dq) osq = v3 at J ⊢
        replace S := keep J S
        replace T := keep J T
        replace F := keep J F
        replace S2 := keep J S2
        replace BW := bw_trans BW J
        replace hs := hs.below J
        clear J uS0 uS1 uS2 uS3 uT0 uT1 uF0 uF1 uS20 uS21 uS22 uS23
        go_wp2_with fail
        go_ret
        exact ⟨rfl, BW⟩
end Go.Proofs.YtmjbfocghlhecaaDoor
