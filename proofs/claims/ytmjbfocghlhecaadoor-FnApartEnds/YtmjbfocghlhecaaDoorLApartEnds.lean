/-
  OUR OWN TEXT. The law FnApartEnds, walked: whatever bytes come in, it answers true and writes nothing that was there.
-/
import Derived.Test.YtmjbfocghlhecaaDoorDrawD
import Derived.Test.YtmjbfocghlhecaaDoorLuD
import Derived.Test.YtmjbfocghlhecaaDoorSApart
import Derived.Test.YtmjbfocghlhecaaDoorGeoParts
namespace Go.Proofs.YtmjbfocghlhecaaDoor
open Go.RowKit Go.Sort

theorem cmpV_le {f g : Int × Int} (hf : okB f.1 f.2 = true) (hg : okB g.1 g.2 = true) (h : f.1 * g.2 ≤ g.1 * f.2) : cmpV f.1 f.2 g.1 g.2 ≤ 0 := by
  unfold cmpV; rw [hf, hg]; show cmpI _ _ ≤ 0; unfold cmpI; split
  · omega
  · rw [if_neg (by omega)]; omega
theorem blk_8 {w : World} {b : Nat} {x0 x1 x2 x3 x4 x5 x6 x7 : Value} {t : TypeId} (h : w.heap[b]? = some (.cells #[x0, x1, x2, x3, x4, x5, x6, x7] t (0, 0))) :
    w.cell? ⟨b, 0, none⟩ = some x0 ∧ w.cell? ⟨b, 1, none⟩ = some x1 ∧ w.cell? ⟨b, 2, none⟩ = some x2 ∧ w.cell? ⟨b, 3, none⟩ = some x3 ∧ w.cell? ⟨b, 4, none⟩ = some x4 ∧ w.cell? ⟨b, 5, none⟩ = some x5 ∧ w.cell? ⟨b, 6, none⟩ = some x6 ∧ w.cell? ⟨b, 7, none⟩ = some x7 := by
  refine ⟨?_, ?_, ?_, ?_, ?_, ?_, ?_, ?_⟩ <;> simp [World.cell?, h]
theorem reg_8 {w : World} {b : Nat} {x0 x1 x2 x3 x4 x5 x6 x7 : Value} {t : TypeId} (h : w.heap[b]? = some (.cells #[x0, x1, x2, x3, x4, x5, x6, x7] t (0, 0))) :
    (∀ d os, (grow (redrawn w d) os).cell? ⟨b, 0, none⟩ = some x0) ∧ (∀ d os, (grow (redrawn w d) os).cell? ⟨b, 1, none⟩ = some x1) ∧ (∀ d os, (grow (redrawn w d) os).cell? ⟨b, 2, none⟩ = some x2) ∧ (∀ d os, (grow (redrawn w d) os).cell? ⟨b, 3, none⟩ = some x3) ∧ (∀ d os, (grow (redrawn w d) os).cell? ⟨b, 4, none⟩ = some x4) ∧ (∀ d os, (grow (redrawn w d) os).cell? ⟨b, 5, none⟩ = some x5) ∧ (∀ d os, (grow (redrawn w d) os).cell? ⟨b, 6, none⟩ = some x6) ∧ (∀ d os, (grow (redrawn w d) os).cell? ⟨b, 7, none⟩ = some x7) := by
  have k := blk_8 h
  exact ⟨cell_regrown k.1, cell_regrown k.2.1, cell_regrown k.2.2.1, cell_regrown k.2.2.2.1, cell_regrown k.2.2.2.2.1, cell_regrown k.2.2.2.2.2.1, cell_regrown k.2.2.2.2.2.2.1, cell_regrown k.2.2.2.2.2.2.2⟩
theorem three (n m d b : Int) : (n == m) = false ∨ (n = m ∧ (d == b) = false) ∨ (n = m ∧ d = b) := by
  by_cases h : n = m
  · by_cases h2 : d = b
    · exact .inr (.inr ⟨h, h2⟩)
    · exact .inr (.inl ⟨h, by simpa using h2⟩)
  · exact .inl (by simpa using h)
theorem apartEnds_long (w : World) (a0 : Option Addr) (len0 cap0 : Nat) (h : 1048576 < len0) :
    Calls Tryd.prog 9 #[.slice a0 len0 cap0] w fun e w' => e = .returned (.bool true) ∧ Below w.heap.size w w' := by
  go_enter Tryd.func9, Tryd.ntmps9
  go_wp2
  go_ret
  exact ⟨rfl, bw_refl _⟩
set_option maxHeartbeats 8000000 in
theorem apartEnds_walk (w : World) (a0 : Option Addr) (len0 cap0 : Nat) (z0 : List Int) (r0 : IsRow .u8 w a0 len0 cap0 z0) (ad : Addr) (hs0 : Sent ad w) :
    Calls Tryd.prog 9 #[.slice a0 len0 cap0] w fun e w' => e = .returned (.bool true) ∧ Below w.heap.size w w' := by
  by_cases hl : 1048576 < len0
  · exact apartEnds_long w a0 len0 cap0 hl
  have hl0 : len0 ≤ 1048576 := by omega
  clear hl
  go_enter Tryd.func9, Tryd.ntmps9
  go_wp2_with fail
  refine (drawApart_any w _ r0 (bw_refl _)).mono ?_
  rintro e w0 ⟨ax, ay, bx, b_y, cx, cy, ex, ey, rfl, b1⟩
  obtain ⟨W, hW, BW, S, T⟩ := boxes2 w0 (.cells #[.int .i64 ax, .int .i64 ay, .int .i64 bx, .int .i64 b_y] 26) (.cells #[.int .i64 cx, .int .i64 cy, .int .i64 ex, .int .i64 ey] 26)
  replace BW := bw_trans b1 BW
  clear b1
  go_upto_region 4 with fail
  rw [← hW]
  clear hW
  have hs := hs0.below BW
  have zS := blk_lt S
  obtain ⟨fS0, fS1, fS2, fS3⟩ := blk_4 S
  have zT := blk_lt T
  obtain ⟨fT0, fT1, fT2, fT3⟩ := blk_4 T
  clear hs0
  cases gs : sgB ax ay bx b_y
  · have e0 : apartV ax ay bx b_y cx cy ex ey = (0, 0) := by unfold apartV; rw [gs]; rfl
    have X0 := segApart_any ax ay bx b_y cx cy ex ey ad W hs
    have Y0 : Hid (∀ w, Calls Tryd.prog 28 #[.agg #[.int .i64 ax, .int .i64 ay, .int .i64 bx, .int .i64 b_y], .agg #[.int .i64 cx, .int .i64 cy, .int .i64 ex, .int .i64 ey]] w fun e w' => e = .returned (.agg #[.int .i64 0, .int .i64 0]) ∧ Below w.heap.size w w') := fun w => by have := sApart_any ax ay bx b_y cx cy ex ey w; rwa [e0] at this
    have G0 : Hid (∀ w, Calls Tryd.prog 17 #[.agg #[.int .i64 ax, .int .i64 ay, .int .i64 bx, .int .i64 b_y]] w fun e w' => e = .returned (.bool false) ∧ Below w.heap.size w w') := fun w => by have := sSeg_any ax ay bx b_y w; rwa [gs] at this
    rw [e0] at X0
    clear e0
    go_wp2_with fail
    refine (X0).mono ?_
    rintro e w1 ⟨rfl, J⟩
    obtain ⟨W1, hW1, B1, F⟩ := boxes1 w1 (.cells #[.int .i64 0, .int .i64 0] 34)
    replace B1 := bw_trans J B1
    replace S := keep B1 S
    replace T := keep B1 T
    replace BW := bw_trans BW B1
    replace hs := hs.below B1
    clear J B1 zS fS0 fS1 fS2 fS3 zT fT0 fT1 fT2 fT3
    clear X0
    go_upto_region 5 with fail
    rw [← hW1]
    clear hW1
    obtain ⟨uS0, uS1, uS2, uS3⟩ := reg_4 S
    obtain ⟨uT0, uT1, uT2, uT3⟩ := reg_4 T
    obtain ⟨uF0, uF1⟩ := reg_2 F
    refine wp_region_quiet_below (by kernel_rfl) (by kernel_rfl) ?_
    repeat (first | go_big_quiet_step (first | (go_at_call 28; with_reducible exact Calls.regrown_of (Y0.out _)) | (go_at_call 17; with_reducible exact Calls.regrown_of (G0.out _))))
    refine wpQuiet_nil ?_
    intro _ hw'
    obtain ⟨⟨dq, osq⟩, hw''⟩ := hw'
    subst hw''
    have J := below_regrown W1 dq osq
    generalize grow (redrawn W1 dq) osq = v1 at J ⊢
    replace S := keep J S
    replace T := keep J T
    replace F := keep J F
    replace BW := bw_trans BW J
    replace hs := hs.below J
    clear J uS0 uS1 uS2 uS3 uT0 uT1 uT2 uT3 uF0 uF1
    go_upto_region 6 with fail
    obtain ⟨uS0, uS1, uS2, uS3⟩ := reg_4 S
    obtain ⟨uT0, uT1, uT2, uT3⟩ := reg_4 T
    obtain ⟨uF0, uF1⟩ := reg_2 F
    refine wp_region_quiet_below (by kernel_rfl) (by kernel_rfl) ?_
    repeat (first | go_big_quiet_step (first | (go_at_call 28; with_reducible exact Calls.regrown_of (Y0.out _))))
    refine wpQuiet_nil ?_
    intro _ hw'
    obtain ⟨⟨dq, osq⟩, hw''⟩ := hw'
    subst hw''
    have J := below_regrown v1 dq osq
    generalize grow (redrawn v1 dq) osq = v2 at J ⊢
    replace S := keep J S
    replace T := keep J T
    replace F := keep J F
    replace BW := bw_trans BW J
    replace hs := hs.below J
    clear J uS0 uS1 uS2 uS3 uT0 uT1 uT2 uT3 uF0 uF1
    go_wp2_with fail
    go_ret
    exact ⟨rfl, BW⟩
  · skip
    cases gt : sgB cx cy ex ey
    · have e0 : apartV ax ay bx b_y cx cy ex ey = (0, 0) := by unfold apartV; rw [gs, gt]; rfl
      have X0 := segApart_any ax ay bx b_y cx cy ex ey ad W hs
      have Y0 : Hid (∀ w, Calls Tryd.prog 28 #[.agg #[.int .i64 ax, .int .i64 ay, .int .i64 bx, .int .i64 b_y], .agg #[.int .i64 cx, .int .i64 cy, .int .i64 ex, .int .i64 ey]] w fun e w' => e = .returned (.agg #[.int .i64 0, .int .i64 0]) ∧ Below w.heap.size w w') := fun w => by have := sApart_any ax ay bx b_y cx cy ex ey w; rwa [e0] at this
      have G0 : Hid (∀ w, Calls Tryd.prog 17 #[.agg #[.int .i64 ax, .int .i64 ay, .int .i64 bx, .int .i64 b_y]] w fun e w' => e = .returned (.bool true) ∧ Below w.heap.size w w') := fun w => by have := sSeg_any ax ay bx b_y w; rwa [gs] at this
      have G1 : Hid (∀ w, Calls Tryd.prog 17 #[.agg #[.int .i64 cx, .int .i64 cy, .int .i64 ex, .int .i64 ey]] w fun e w' => e = .returned (.bool false) ∧ Below w.heap.size w w') := fun w => by have := sSeg_any cx cy ex ey w; rwa [gt] at this
      rw [e0] at X0
      clear e0
      go_wp2_with fail
      refine (X0).mono ?_
      rintro e w1 ⟨rfl, J⟩
      obtain ⟨W1, hW1, B1, F⟩ := boxes1 w1 (.cells #[.int .i64 0, .int .i64 0] 34)
      replace B1 := bw_trans J B1
      replace S := keep B1 S
      replace T := keep B1 T
      replace BW := bw_trans BW B1
      replace hs := hs.below B1
      clear J B1 zS fS0 fS1 fS2 fS3 zT fT0 fT1 fT2 fT3
      clear X0
      go_upto_region 5 with fail
      rw [← hW1]
      clear hW1
      obtain ⟨uS0, uS1, uS2, uS3⟩ := reg_4 S
      obtain ⟨uT0, uT1, uT2, uT3⟩ := reg_4 T
      obtain ⟨uF0, uF1⟩ := reg_2 F
      refine wp_region_quiet_below (by kernel_rfl) (by kernel_rfl) ?_
      repeat (first | go_big_quiet_step (first | (go_at_call 28; with_reducible exact Calls.regrown_of (Y0.out _)) | (go_at_call 17; with_reducible exact Calls.regrown_of (G0.out _)) | (go_at_call 17; with_reducible exact Calls.regrown_of (G1.out _))))
      refine wpQuiet_nil ?_
      intro _ hw'
      obtain ⟨⟨dq, osq⟩, hw''⟩ := hw'
      subst hw''
      have J := below_regrown W1 dq osq
      generalize grow (redrawn W1 dq) osq = v1 at J ⊢
      replace S := keep J S
      replace T := keep J T
      replace F := keep J F
      replace BW := bw_trans BW J
      replace hs := hs.below J
      clear J uS0 uS1 uS2 uS3 uT0 uT1 uT2 uT3 uF0 uF1
      go_upto_region 6 with fail
      obtain ⟨uS0, uS1, uS2, uS3⟩ := reg_4 S
      obtain ⟨uT0, uT1, uT2, uT3⟩ := reg_4 T
      obtain ⟨uF0, uF1⟩ := reg_2 F
      refine wp_region_quiet_below (by kernel_rfl) (by kernel_rfl) ?_
      repeat (first | go_big_quiet_step (first | (go_at_call 28; with_reducible exact Calls.regrown_of (Y0.out _))))
      refine wpQuiet_nil ?_
      intro _ hw'
      obtain ⟨⟨dq, osq⟩, hw''⟩ := hw'
      subst hw''
      have J := below_regrown v1 dq osq
      generalize grow (redrawn v1 dq) osq = v2 at J ⊢
      replace S := keep J S
      replace T := keep J T
      replace F := keep J F
      replace BW := bw_trans BW J
      replace hs := hs.below J
      clear J uS0 uS1 uS2 uS3 uT0 uT1 uT2 uT3 uF0 uF1
      go_wp2_with fail
      go_ret
      exact ⟨rfl, BW⟩
    · skip
      obtain ⟨pa, pb, hd⟩ := sg_parts gs
      obtain ⟨pc, pd, hd2⟩ := sg_parts gt
      have hok := apart_ok gs gt
      have X0 := segApart_ok ax ay bx b_y cx cy ex ey ad W hs gs gt
      have Y0 : Hid (∀ w, Calls Tryd.prog 28 #[.agg #[.int .i64 ax, .int .i64 ay, .int .i64 bx, .int .i64 b_y], .agg #[.int .i64 cx, .int .i64 cy, .int .i64 ex, .int .i64 ey]] w fun e w' => e = .returned (.agg #[.int .i64 (apart ax ay bx b_y cx cy ex ey).1, .int .i64 (apart ax ay bx b_y cx cy ex ey).2]) ∧ Below w.heap.size w w') := fun w => by have := sApart_any ax ay bx b_y cx cy ex ey w; rwa [apartV_ok gs gt] at this
      have G0 : Hid (∀ w, Calls Tryd.prog 17 #[.agg #[.int .i64 ax, .int .i64 ay, .int .i64 bx, .int .i64 b_y]] w fun e w' => e = .returned (.bool true) ∧ Below w.heap.size w w') := fun w => by have := sSeg_any ax ay bx b_y w; rwa [gs] at this
      have G1 : Hid (∀ w, Calls Tryd.prog 17 #[.agg #[.int .i64 cx, .int .i64 cy, .int .i64 ex, .int .i64 ey]] w fun e w' => e = .returned (.bool true) ∧ Below w.heap.size w w') := fun w => by have := sSeg_any cx cy ex ey w; rwa [gt] at this
      go_wp2_with fail
      refine (X0).mono ?_
      rintro e w1 ⟨rfl, J⟩
      obtain ⟨W1, hW1, B1, F⟩ := boxes1 w1 (.cells #[.int .i64 (apart ax ay bx b_y cx cy ex ey).1, .int .i64 (apart ax ay bx b_y cx cy ex ey).2] 34)
      replace B1 := bw_trans J B1
      replace S := keep B1 S
      replace T := keep B1 T
      replace BW := bw_trans BW B1
      replace hs := hs.below B1
      clear J B1 zS fS0 fS1 fS2 fS3 zT fT0 fT1 fT2 fT3
      clear X0
      go_upto_region 5 with fail
      rw [← hW1]
      clear hW1
      obtain ⟨uS0, uS1, uS2, uS3⟩ := reg_4 S
      obtain ⟨uT0, uT1, uT2, uT3⟩ := reg_4 T
      obtain ⟨uF0, uF1⟩ := reg_2 F
      refine wp_region_quiet_below (by kernel_rfl) (by kernel_rfl) ?_
      repeat (first | go_big_quiet_step (first | (go_at_call 28; with_reducible exact Calls.regrown_of (Y0.out _)) | (go_at_call 17; with_reducible exact Calls.regrown_of (G0.out _)) | (go_at_call 17; with_reducible exact Calls.regrown_of (G1.out _))))
      refine wpQuiet_nil ?_
      intro _ hw'
      obtain ⟨⟨dq, osq⟩, hw''⟩ := hw'
      subst hw''
      have J := below_regrown W1 dq osq
      generalize grow (redrawn W1 dq) osq = v1 at J ⊢
      replace S := keep J S
      replace T := keep J T
      replace F := keep J F
      replace BW := bw_trans BW J
      replace hs := hs.below J
      clear J uS0 uS1 uS2 uS3 uT0 uT1 uT2 uT3 uF0 uF1
      clear Y0 G0 G1
      have FA0 : Hid (∀ w, Sent ad w → Calls Tryd.prog 20 #[.agg #[.int .i64 ax, .int .i64 ay, .int .i64 bx, .int .i64 b_y], .agg #[.int .i64 cx, .int .i64 cy]] w fun e w' => e = .returned (.agg #[.int .i64 (far ax ay bx b_y cx cy).1, .int .i64 (far ax ay bx b_y cx cy).2]) ∧ Below w.heap.size w w') := fun w hs => segFar_ok ax ay bx b_y cx cy ad w hs gs pc
      have FA1 : Hid (∀ w, Sent ad w → Calls Tryd.prog 20 #[.agg #[.int .i64 ax, .int .i64 ay, .int .i64 bx, .int .i64 b_y], .agg #[.int .i64 ex, .int .i64 ey]] w fun e w' => e = .returned (.agg #[.int .i64 (far ax ay bx b_y ex ey).1, .int .i64 (far ax ay bx b_y ex ey).2]) ∧ Below w.heap.size w w') := fun w hs => segFar_ok ax ay bx b_y ex ey ad w hs gs pd
      have FA2 : Hid (∀ w, Sent ad w → Calls Tryd.prog 20 #[.agg #[.int .i64 cx, .int .i64 cy, .int .i64 ex, .int .i64 ey], .agg #[.int .i64 ax, .int .i64 ay]] w fun e w' => e = .returned (.agg #[.int .i64 (far cx cy ex ey ax ay).1, .int .i64 (far cx cy ex ey ax ay).2]) ∧ Below w.heap.size w w') := fun w hs => segFar_ok cx cy ex ey ax ay ad w hs gt pa
      have FA3 : Hid (∀ w, Sent ad w → Calls Tryd.prog 20 #[.agg #[.int .i64 cx, .int .i64 cy, .int .i64 ex, .int .i64 ey], .agg #[.int .i64 bx, .int .i64 b_y]] w fun e w' => e = .returned (.agg #[.int .i64 (far cx cy ex ey bx b_y).1, .int .i64 (far cx cy ex ey bx b_y).2]) ∧ Below w.heap.size w w') := fun w hs => segFar_ok cx cy ex ey bx b_y ad w hs gt pb
      obtain ⟨o0, o1, o2, o3⟩ := four_ok gs gt
      have le : LeF (apart ax ay bx b_y cx cy ex ey) (far ax ay bx b_y cx cy) ∧ LeF (apart ax ay bx b_y cx cy ex ey) (far ax ay bx b_y ex ey) ∧ LeF (apart ax ay bx b_y cx cy ex ey) (far cx cy ex ey ax ay) ∧ LeF (apart ax ay bx b_y cx cy ex ey) (far cx cy ex ey bx b_y) := by
        cases hm : meetC ax ay bx b_y cx cy ex ey
        · exact (apart_least gs gt hm).2
        · rw [apart_yes hm]; have q0 := OkF.pos o0; have q1 := OkF.pos o1; have q2 := OkF.pos o2; have q3 := OkF.pos o3; refine ⟨?_, ?_, ?_, ?_⟩ <;> (unfold LeF; show 0 * _ ≤ _ * 1; omega)
      have c0 := cmpV_le hok o0 le.1
      have C0 : Hid (∀ w, Sent ad w → Calls Tryd.prog 32 #[.agg #[.int .i64 (apart ax ay bx b_y cx cy ex ey).1, .int .i64 (apart ax ay bx b_y cx cy ex ey).2], .agg #[.int .i64 (far ax ay bx b_y cx cy).1, .int .i64 (far ax ay bx b_y cx cy).2]] w fun e w' => e = .returned (.int .i64 (cmpV (apart ax ay bx b_y cx cy ex ey).1 (apart ax ay bx b_y cx cy ex ey).2 (far ax ay bx b_y cx cy).1 (far ax ay bx b_y cx cy).2)) ∧ Below w.heap.size w w') := fun w hs => fracCmp_any _ _ _ _ ad w hs
      generalize cmpV (apart ax ay bx b_y cx cy ex ey).1 (apart ax ay bx b_y cx cy ex ey).2 (far ax ay bx b_y cx cy).1 (far ax ay bx b_y cx cy).2 = k0 at c0 C0
      have c1 := cmpV_le hok o1 le.2.1
      have C1 : Hid (∀ w, Sent ad w → Calls Tryd.prog 32 #[.agg #[.int .i64 (apart ax ay bx b_y cx cy ex ey).1, .int .i64 (apart ax ay bx b_y cx cy ex ey).2], .agg #[.int .i64 (far ax ay bx b_y ex ey).1, .int .i64 (far ax ay bx b_y ex ey).2]] w fun e w' => e = .returned (.int .i64 (cmpV (apart ax ay bx b_y cx cy ex ey).1 (apart ax ay bx b_y cx cy ex ey).2 (far ax ay bx b_y ex ey).1 (far ax ay bx b_y ex ey).2)) ∧ Below w.heap.size w w') := fun w hs => fracCmp_any _ _ _ _ ad w hs
      generalize cmpV (apart ax ay bx b_y cx cy ex ey).1 (apart ax ay bx b_y cx cy ex ey).2 (far ax ay bx b_y ex ey).1 (far ax ay bx b_y ex ey).2 = k1 at c1 C1
      have c2 := cmpV_le hok o2 le.2.2.1
      have C2 : Hid (∀ w, Sent ad w → Calls Tryd.prog 32 #[.agg #[.int .i64 (apart ax ay bx b_y cx cy ex ey).1, .int .i64 (apart ax ay bx b_y cx cy ex ey).2], .agg #[.int .i64 (far cx cy ex ey ax ay).1, .int .i64 (far cx cy ex ey ax ay).2]] w fun e w' => e = .returned (.int .i64 (cmpV (apart ax ay bx b_y cx cy ex ey).1 (apart ax ay bx b_y cx cy ex ey).2 (far cx cy ex ey ax ay).1 (far cx cy ex ey ax ay).2)) ∧ Below w.heap.size w w') := fun w hs => fracCmp_any _ _ _ _ ad w hs
      generalize cmpV (apart ax ay bx b_y cx cy ex ey).1 (apart ax ay bx b_y cx cy ex ey).2 (far cx cy ex ey ax ay).1 (far cx cy ex ey ax ay).2 = k2 at c2 C2
      have c3 := cmpV_le hok o3 le.2.2.2
      have C3 : Hid (∀ w, Sent ad w → Calls Tryd.prog 32 #[.agg #[.int .i64 (apart ax ay bx b_y cx cy ex ey).1, .int .i64 (apart ax ay bx b_y cx cy ex ey).2], .agg #[.int .i64 (far cx cy ex ey bx b_y).1, .int .i64 (far cx cy ex ey bx b_y).2]] w fun e w' => e = .returned (.int .i64 (cmpV (apart ax ay bx b_y cx cy ex ey).1 (apart ax ay bx b_y cx cy ex ey).2 (far cx cy ex ey bx b_y).1 (far cx cy ex ey bx b_y).2)) ∧ Below w.heap.size w w') := fun w hs => fracCmp_any _ _ _ _ ad w hs
      generalize cmpV (apart ax ay bx b_y cx cy ex ey).1 (apart ax ay bx b_y cx cy ex ey).2 (far cx cy ex ey bx b_y).1 (far cx cy ex ey bx b_y).2 = k3 at c3 C3
      have MM : Hid (∀ w, Calls Tryd.prog 29 #[.agg #[.int .i64 ax, .int .i64 ay, .int .i64 bx, .int .i64 b_y], .agg #[.int .i64 cx, .int .i64 cy, .int .i64 ex, .int .i64 ey]] w fun e w' => e = .returned (.bool (meetC ax ay bx b_y cx cy ex ey)) ∧ Below w.heap.size w w') := fun w => meet_ok _ _ _ _ _ _ _ _ w gs gt
      have one : (apart ax ay bx b_y cx cy ex ey = far ax ay bx b_y cx cy ∨ apart ax ay bx b_y cx cy ex ey = far ax ay bx b_y ex ey ∨ apart ax ay bx b_y cx cy ex ey = far cx cy ex ey ax ay ∨ apart ax ay bx b_y cx cy ex ey = far cx cy ex ey bx b_y) ∨ meetC ax ay bx b_y cx cy ex ey = true := by
        cases hm : meetC ax ay bx b_y cx cy ex ey
        · exact .inl (apart_least gs gt hm).1
        · exact .inr rfl
      have ONE : Hid _ := one
      clear one le hok hd hd2 pa pb pc pd gs gt o0 o1 o2 o3
      generalize far ax ay bx b_y cx cy = g0 at *
      generalize far ax ay bx b_y ex ey = g1 at *
      generalize far cx cy ex ey ax ay = g2 at *
      generalize far cx cy ex ey bx b_y = g3 at *
      generalize apart ax ay bx b_y cx cy ex ey = ff at *
      generalize meetC ax ay bx b_y cx cy ex ey = mm at *
      obtain ⟨n0, d0⟩ := g0
      obtain ⟨n1, d1⟩ := g1
      obtain ⟨n2, d2⟩ := g2
      obtain ⟨n3, d3⟩ := g3
      obtain ⟨nf, df⟩ := ff
      dsimp only at *
      go_upto_region 7 with fail
      have hS0 : (fun w' => w'.cell? ⟨w0.heap.size, 0, none⟩ = some (.int .i64 ax) ∧ w'.cell? ⟨w0.heap.size, 1, none⟩ = some (.int .i64 ay) ∧ w'.cell? ⟨w0.heap.size, 2, none⟩ = some (.int .i64 bx) ∧ w'.cell? ⟨w0.heap.size, 3, none⟩ = some (.int .i64 b_y) ∧ w'.cell? ⟨w0.heap.size + 1, 0, none⟩ = some (.int .i64 cx) ∧ w'.cell? ⟨w0.heap.size + 1, 1, none⟩ = some (.int .i64 cy) ∧ w'.cell? ⟨w0.heap.size + 1, 2, none⟩ = some (.int .i64 ex) ∧ w'.cell? ⟨w0.heap.size + 1, 3, none⟩ = some (.int .i64 ey)) v1 := by
        obtain ⟨s0, s1, s2, s3⟩ := blk_4 S
        obtain ⟨t0, t1, t2, t3⟩ := blk_4 T
        exact ⟨s0, s1, s2, s3, t0, t1, t2, t3⟩
      have HD := bw_drew (bw_refl v1)
      replace S := keep HD S
      replace T := keep HD T
      replace F := keep HD F
      replace BW := bw_trans BW HD
      replace hs := hs.below HD
      clear HD
      go_region_held3 (fun w' => w'.cell? ⟨w0.heap.size, 0, none⟩ = some (.int .i64 ax) ∧ w'.cell? ⟨w0.heap.size, 1, none⟩ = some (.int .i64 ay) ∧ w'.cell? ⟨w0.heap.size, 2, none⟩ = some (.int .i64 bx) ∧ w'.cell? ⟨w0.heap.size, 3, none⟩ = some (.int .i64 b_y) ∧ w'.cell? ⟨w0.heap.size + 1, 0, none⟩ = some (.int .i64 cx) ∧ w'.cell? ⟨w0.heap.size + 1, 1, none⟩ = some (.int .i64 cy) ∧ w'.cell? ⟨w0.heap.size + 1, 2, none⟩ = some (.int .i64 ex) ∧ w'.cell? ⟨w0.heap.size + 1, 3, none⟩ = some (.int .i64 ey)) (first | with_reducible exact cB8 K (by assumption) | with_reducible exact cA8 (by assumption) | exact hS0) (first | (go_at_call 20; refine (FA0.out _ hs).mono ?_; clear FA0; rintro e y0 ⟨rfl, K⟩; replace hs := hs.below K; replace BW := bw_trans BW K; replace S := keep K S; replace T := keep K T; replace F := keep K F) | (go_at_call 20; refine (FA1.out _ hs).mono ?_; clear FA1; rintro e y1 ⟨rfl, K⟩; replace hs := hs.below K; replace BW := bw_trans BW K; replace S := keep K S; replace T := keep K T; replace F := keep K F) | (go_at_call 20; refine (FA2.out _ hs).mono ?_; clear FA2; rintro e y2 ⟨rfl, K⟩; replace hs := hs.below K; replace BW := bw_trans BW K; replace S := keep K S; replace T := keep K T; replace F := keep K F) | (go_at_call 20; refine (FA3.out _ hs).mono ?_; clear FA3; rintro e y3 ⟨rfl, K⟩; replace hs := hs.below K; replace BW := bw_trans BW K; replace S := keep K S; replace T := keep K T; replace F := keep K F))
      clear hS0
      obtain ⟨V, hV, BV, LB⟩ := boxes1 y3 (.cells #[.int .i64 n0, .int .i64 d0, .int .i64 n1, .int .i64 d1, .int .i64 n2, .int .i64 d2, .int .i64 n3, .int .i64 d3] 34)
      go_upto_region 10 with fail
      rw [← hV]
      clear hV
      replace S := keep BV S
      replace T := keep BV T
      replace F := keep BV F
      replace BW := bw_trans BW BV
      replace hs := hs.below BV
      clear BV
      refine wp_loop_rounds 5 ?_
      rw [rounds_succ]
      go_upto_region 12 with fail
      obtain ⟨uS0, uS1, uS2, uS3⟩ := reg_4 S
      obtain ⟨uT0, uT1, uT2, uT3⟩ := reg_4 T
      obtain ⟨uF0, uF1⟩ := reg_2 F
      obtain ⟨uLB0, uLB1, uLB2, uLB3, uLB4, uLB5, uLB6, uLB7⟩ := reg_8 LB
      refine wp_region_quiet_below (by kernel_rfl) (by kernel_rfl) ?_
      repeat (first | go_big_quiet_step (first | (go_at_call 32; with_reducible exact Calls.regrown_of (C0.out _ (hs.below (below_regrown _ _ _))))))
      refine wpQuiet_nil ?_
      intro _ hw'
      obtain ⟨⟨dq, osq⟩, hw''⟩ := hw'
      subst hw''
      have J := below_regrown V dq osq
      generalize grow (redrawn V dq) osq = v2 at J ⊢
      replace S := keep J S
      replace T := keep J T
      replace F := keep J F
      replace LB := keep J LB
      replace BW := bw_trans BW J
      replace hs := hs.below J
      clear J uS0 uS1 uS2 uS3 uT0 uT1 uT2 uT3 uF0 uF1 uLB0 uLB1 uLB2 uLB3 uLB4 uLB5 uLB6 uLB7
      go_upto_region 14 with fail
      rcases three n0 nf d0 df with a0 | ⟨a0, b0⟩ | ⟨a0, b0⟩
      · skip
        obtain ⟨uS0, uS1, uS2, uS3⟩ := reg_4 S
        obtain ⟨uT0, uT1, uT2, uT3⟩ := reg_4 T
        obtain ⟨uF0, uF1⟩ := reg_2 F
        obtain ⟨uLB0, uLB1, uLB2, uLB3, uLB4, uLB5, uLB6, uLB7⟩ := reg_8 LB
        refine wp_region_quiet_below (by kernel_rfl) (by kernel_rfl) ?_
        repeat (first | go_big_quiet_step (first | (go_at_call 32; with_reducible exact Calls.regrown_of (C0.out _ (hs.below (below_regrown _ _ _))))))
        refine wpQuiet_nil ?_
        intro _ hw'
        obtain ⟨⟨dq, osq⟩, hw''⟩ := hw'
        subst hw''
        have J := below_regrown v2 dq osq
        generalize grow (redrawn v2 dq) osq = v3 at J ⊢
        replace S := keep J S
        replace T := keep J T
        replace F := keep J F
        replace LB := keep J LB
        replace BW := bw_trans BW J
        replace hs := hs.below J
        clear J uS0 uS1 uS2 uS3 uT0 uT1 uT2 uT3 uF0 uF1 uLB0 uLB1 uLB2 uLB3 uLB4 uLB5 uLB6 uLB7
        go_wp2_with fail
        rw [rounds_succ]
        go_upto_region 12 with fail
        obtain ⟨uS0, uS1, uS2, uS3⟩ := reg_4 S
        obtain ⟨uT0, uT1, uT2, uT3⟩ := reg_4 T
        obtain ⟨uF0, uF1⟩ := reg_2 F
        obtain ⟨uLB0, uLB1, uLB2, uLB3, uLB4, uLB5, uLB6, uLB7⟩ := reg_8 LB
        refine wp_region_quiet_below (by kernel_rfl) (by kernel_rfl) ?_
        repeat (first | go_big_quiet_step (first | (go_at_call 32; with_reducible exact Calls.regrown_of (C1.out _ (hs.below (below_regrown _ _ _))))))
        refine wpQuiet_nil ?_
        intro _ hw'
        obtain ⟨⟨dq, osq⟩, hw''⟩ := hw'
        subst hw''
        have J := below_regrown v3 dq osq
        generalize grow (redrawn v3 dq) osq = v4 at J ⊢
        replace S := keep J S
        replace T := keep J T
        replace F := keep J F
        replace LB := keep J LB
        replace BW := bw_trans BW J
        replace hs := hs.below J
        clear J uS0 uS1 uS2 uS3 uT0 uT1 uT2 uT3 uF0 uF1 uLB0 uLB1 uLB2 uLB3 uLB4 uLB5 uLB6 uLB7
        go_upto_region 14 with fail
        rcases three n1 nf d1 df with a1 | ⟨a1, b1⟩ | ⟨a1, b1⟩
        · skip
          obtain ⟨uS0, uS1, uS2, uS3⟩ := reg_4 S
          obtain ⟨uT0, uT1, uT2, uT3⟩ := reg_4 T
          obtain ⟨uF0, uF1⟩ := reg_2 F
          obtain ⟨uLB0, uLB1, uLB2, uLB3, uLB4, uLB5, uLB6, uLB7⟩ := reg_8 LB
          refine wp_region_quiet_below (by kernel_rfl) (by kernel_rfl) ?_
          repeat (first | go_big_quiet_step (first | (go_at_call 32; with_reducible exact Calls.regrown_of (C1.out _ (hs.below (below_regrown _ _ _))))))
          refine wpQuiet_nil ?_
          intro _ hw'
          obtain ⟨⟨dq, osq⟩, hw''⟩ := hw'
          subst hw''
          have J := below_regrown v4 dq osq
          generalize grow (redrawn v4 dq) osq = v5 at J ⊢
          replace S := keep J S
          replace T := keep J T
          replace F := keep J F
          replace LB := keep J LB
          replace BW := bw_trans BW J
          replace hs := hs.below J
          clear J uS0 uS1 uS2 uS3 uT0 uT1 uT2 uT3 uF0 uF1 uLB0 uLB1 uLB2 uLB3 uLB4 uLB5 uLB6 uLB7
          go_wp2_with fail
          rw [rounds_succ]
          go_upto_region 12 with fail
          obtain ⟨uS0, uS1, uS2, uS3⟩ := reg_4 S
          obtain ⟨uT0, uT1, uT2, uT3⟩ := reg_4 T
          obtain ⟨uF0, uF1⟩ := reg_2 F
          obtain ⟨uLB0, uLB1, uLB2, uLB3, uLB4, uLB5, uLB6, uLB7⟩ := reg_8 LB
          refine wp_region_quiet_below (by kernel_rfl) (by kernel_rfl) ?_
          repeat (first | go_big_quiet_step (first | (go_at_call 32; with_reducible exact Calls.regrown_of (C2.out _ (hs.below (below_regrown _ _ _))))))
          refine wpQuiet_nil ?_
          intro _ hw'
          obtain ⟨⟨dq, osq⟩, hw''⟩ := hw'
          subst hw''
          have J := below_regrown v5 dq osq
          generalize grow (redrawn v5 dq) osq = v6 at J ⊢
          replace S := keep J S
          replace T := keep J T
          replace F := keep J F
          replace LB := keep J LB
          replace BW := bw_trans BW J
          replace hs := hs.below J
          clear J uS0 uS1 uS2 uS3 uT0 uT1 uT2 uT3 uF0 uF1 uLB0 uLB1 uLB2 uLB3 uLB4 uLB5 uLB6 uLB7
          go_upto_region 14 with fail
          rcases three n2 nf d2 df with a2 | ⟨a2, b2⟩ | ⟨a2, b2⟩
          · skip
            obtain ⟨uS0, uS1, uS2, uS3⟩ := reg_4 S
            obtain ⟨uT0, uT1, uT2, uT3⟩ := reg_4 T
            obtain ⟨uF0, uF1⟩ := reg_2 F
            obtain ⟨uLB0, uLB1, uLB2, uLB3, uLB4, uLB5, uLB6, uLB7⟩ := reg_8 LB
            refine wp_region_quiet_below (by kernel_rfl) (by kernel_rfl) ?_
            repeat (first | go_big_quiet_step (first | (go_at_call 32; with_reducible exact Calls.regrown_of (C2.out _ (hs.below (below_regrown _ _ _))))))
            refine wpQuiet_nil ?_
            intro _ hw'
            obtain ⟨⟨dq, osq⟩, hw''⟩ := hw'
            subst hw''
            have J := below_regrown v6 dq osq
            generalize grow (redrawn v6 dq) osq = v7 at J ⊢
            replace S := keep J S
            replace T := keep J T
            replace F := keep J F
            replace LB := keep J LB
            replace BW := bw_trans BW J
            replace hs := hs.below J
            clear J uS0 uS1 uS2 uS3 uT0 uT1 uT2 uT3 uF0 uF1 uLB0 uLB1 uLB2 uLB3 uLB4 uLB5 uLB6 uLB7
            go_wp2_with fail
            rw [rounds_succ]
            go_upto_region 12 with fail
            obtain ⟨uS0, uS1, uS2, uS3⟩ := reg_4 S
            obtain ⟨uT0, uT1, uT2, uT3⟩ := reg_4 T
            obtain ⟨uF0, uF1⟩ := reg_2 F
            obtain ⟨uLB0, uLB1, uLB2, uLB3, uLB4, uLB5, uLB6, uLB7⟩ := reg_8 LB
            refine wp_region_quiet_below (by kernel_rfl) (by kernel_rfl) ?_
            repeat (first | go_big_quiet_step (first | (go_at_call 32; with_reducible exact Calls.regrown_of (C3.out _ (hs.below (below_regrown _ _ _))))))
            refine wpQuiet_nil ?_
            intro _ hw'
            obtain ⟨⟨dq, osq⟩, hw''⟩ := hw'
            subst hw''
            have J := below_regrown v7 dq osq
            generalize grow (redrawn v7 dq) osq = v8 at J ⊢
            replace S := keep J S
            replace T := keep J T
            replace F := keep J F
            replace LB := keep J LB
            replace BW := bw_trans BW J
            replace hs := hs.below J
            clear J uS0 uS1 uS2 uS3 uT0 uT1 uT2 uT3 uF0 uF1 uLB0 uLB1 uLB2 uLB3 uLB4 uLB5 uLB6 uLB7
            go_upto_region 14 with fail
            rcases three n3 nf d3 df with a3 | ⟨a3, b3⟩ | ⟨a3, b3⟩
            · skip
              obtain ⟨uS0, uS1, uS2, uS3⟩ := reg_4 S
              obtain ⟨uT0, uT1, uT2, uT3⟩ := reg_4 T
              obtain ⟨uF0, uF1⟩ := reg_2 F
              obtain ⟨uLB0, uLB1, uLB2, uLB3, uLB4, uLB5, uLB6, uLB7⟩ := reg_8 LB
              refine wp_region_quiet_below (by kernel_rfl) (by kernel_rfl) ?_
              repeat (first | go_big_quiet_step (first | (go_at_call 32; with_reducible exact Calls.regrown_of (C3.out _ (hs.below (below_regrown _ _ _))))))
              refine wpQuiet_nil ?_
              intro _ hw'
              obtain ⟨⟨dq, osq⟩, hw''⟩ := hw'
              subst hw''
              have J := below_regrown v8 dq osq
              generalize grow (redrawn v8 dq) osq = v9 at J ⊢
              replace S := keep J S
              replace T := keep J T
              replace F := keep J F
              replace LB := keep J LB
              replace BW := bw_trans BW J
              replace hs := hs.below J
              clear J uS0 uS1 uS2 uS3 uT0 uT1 uT2 uT3 uF0 uF1 uLB0 uLB1 uLB2 uLB3 uLB4 uLB5 uLB6 uLB7
              go_wp2_with fail
              rw [rounds_succ]
              have hm : mm = true := by
                rcases ONE.out with (h | h | h | h) | h
                · simp only [Prod.mk.injEq] at h; simp [h.1] at a0
                · simp only [Prod.mk.injEq] at h; simp [h.1] at a1
                · simp only [Prod.mk.injEq] at h; simp [h.1] at a2
                · simp only [Prod.mk.injEq] at h; simp [h.1] at a3
                · exact h
              rw [hm] at MM
              clear ONE hm
              have zS := blk_lt S
              obtain ⟨fS0, fS1, fS2, fS3⟩ := blk_4 S
              have zT := blk_lt T
              obtain ⟨fT0, fT1, fT2, fT3⟩ := blk_4 T
              have zF := blk_lt F
              obtain ⟨fF0, fF1⟩ := blk_2 F
              have zLB := blk_lt LB
              obtain ⟨fLB0, fLB1, fLB2, fLB3, fLB4, fLB5, fLB6, fLB7⟩ := blk_8 LB
              go_wp2_with fail
              refine (MM.out _).mono ?_
              rintro e v10 ⟨rfl, J⟩
              replace S := keep J S
              replace T := keep J T
              replace F := keep J F
              replace LB := keep J LB
              replace BW := bw_trans BW J
              replace hs := hs.below J
              clear J
              clear zS fS0 fS1 fS2 fS3 zT fT0 fT1 fT2 fT3 zF fF0 fF1 zLB fLB0 fLB1 fLB2 fLB3 fLB4 fLB5 fLB6 fLB7
              go_wp2_with fail
              go_ret
              exact ⟨rfl, BW⟩
            · skip
              obtain ⟨uS0, uS1, uS2, uS3⟩ := reg_4 S
              obtain ⟨uT0, uT1, uT2, uT3⟩ := reg_4 T
              obtain ⟨uF0, uF1⟩ := reg_2 F
              obtain ⟨uLB0, uLB1, uLB2, uLB3, uLB4, uLB5, uLB6, uLB7⟩ := reg_8 LB
              refine wp_region_quiet_below (by kernel_rfl) (by kernel_rfl) ?_
              repeat (first | go_big_quiet_step (first | (go_at_call 32; with_reducible exact Calls.regrown_of (C3.out _ (hs.below (below_regrown _ _ _))))))
              refine wpQuiet_nil ?_
              intro _ hw'
              obtain ⟨⟨dq, osq⟩, hw''⟩ := hw'
              subst hw''
              have J := below_regrown v8 dq osq
              generalize grow (redrawn v8 dq) osq = v9 at J ⊢
              replace S := keep J S
              replace T := keep J T
              replace F := keep J F
              replace LB := keep J LB
              replace BW := bw_trans BW J
              replace hs := hs.below J
              clear J uS0 uS1 uS2 uS3 uT0 uT1 uT2 uT3 uF0 uF1 uLB0 uLB1 uLB2 uLB3 uLB4 uLB5 uLB6 uLB7
              go_wp2_with fail
              rw [rounds_succ]
              have hm : mm = true := by
                rcases ONE.out with (h | h | h | h) | h
                · simp only [Prod.mk.injEq] at h; simp [h.1] at a0
                · simp only [Prod.mk.injEq] at h; simp [h.1] at a1
                · simp only [Prod.mk.injEq] at h; simp [h.1] at a2
                · simp only [Prod.mk.injEq] at h; simp [h.2] at b3
                · exact h
              rw [hm] at MM
              clear ONE hm
              have zS := blk_lt S
              obtain ⟨fS0, fS1, fS2, fS3⟩ := blk_4 S
              have zT := blk_lt T
              obtain ⟨fT0, fT1, fT2, fT3⟩ := blk_4 T
              have zF := blk_lt F
              obtain ⟨fF0, fF1⟩ := blk_2 F
              have zLB := blk_lt LB
              obtain ⟨fLB0, fLB1, fLB2, fLB3, fLB4, fLB5, fLB6, fLB7⟩ := blk_8 LB
              go_wp2_with fail
              refine (MM.out _).mono ?_
              rintro e v10 ⟨rfl, J⟩
              replace S := keep J S
              replace T := keep J T
              replace F := keep J F
              replace LB := keep J LB
              replace BW := bw_trans BW J
              replace hs := hs.below J
              clear J
              clear zS fS0 fS1 fS2 fS3 zT fT0 fT1 fT2 fT3 zF fF0 fF1 zLB fLB0 fLB1 fLB2 fLB3 fLB4 fLB5 fLB6 fLB7
              go_wp2_with fail
              go_ret
              exact ⟨rfl, BW⟩
            · skip
              obtain ⟨uS0, uS1, uS2, uS3⟩ := reg_4 S
              obtain ⟨uT0, uT1, uT2, uT3⟩ := reg_4 T
              obtain ⟨uF0, uF1⟩ := reg_2 F
              obtain ⟨uLB0, uLB1, uLB2, uLB3, uLB4, uLB5, uLB6, uLB7⟩ := reg_8 LB
              refine wp_region_quiet_below (by kernel_rfl) (by kernel_rfl) ?_
              repeat (first | go_big_quiet_step (first | (go_at_call 32; with_reducible exact Calls.regrown_of (C3.out _ (hs.below (below_regrown _ _ _))))))
              refine wpQuiet_nil ?_
              intro _ hw'
              obtain ⟨⟨dq, osq⟩, hw''⟩ := hw'
              subst hw''
              have J := below_regrown v8 dq osq
              generalize grow (redrawn v8 dq) osq = v9 at J ⊢
              replace S := keep J S
              replace T := keep J T
              replace F := keep J F
              replace LB := keep J LB
              replace BW := bw_trans BW J
              replace hs := hs.below J
              clear J uS0 uS1 uS2 uS3 uT0 uT1 uT2 uT3 uF0 uF1 uLB0 uLB1 uLB2 uLB3 uLB4 uLB5 uLB6 uLB7
              go_wp2_with fail
              rw [rounds_succ]
              go_wp2_with fail
              go_ret
              exact ⟨rfl, BW⟩
          · skip
            obtain ⟨uS0, uS1, uS2, uS3⟩ := reg_4 S
            obtain ⟨uT0, uT1, uT2, uT3⟩ := reg_4 T
            obtain ⟨uF0, uF1⟩ := reg_2 F
            obtain ⟨uLB0, uLB1, uLB2, uLB3, uLB4, uLB5, uLB6, uLB7⟩ := reg_8 LB
            refine wp_region_quiet_below (by kernel_rfl) (by kernel_rfl) ?_
            repeat (first | go_big_quiet_step (first | (go_at_call 32; with_reducible exact Calls.regrown_of (C2.out _ (hs.below (below_regrown _ _ _))))))
            refine wpQuiet_nil ?_
            intro _ hw'
            obtain ⟨⟨dq, osq⟩, hw''⟩ := hw'
            subst hw''
            have J := below_regrown v6 dq osq
            generalize grow (redrawn v6 dq) osq = v7 at J ⊢
            replace S := keep J S
            replace T := keep J T
            replace F := keep J F
            replace LB := keep J LB
            replace BW := bw_trans BW J
            replace hs := hs.below J
            clear J uS0 uS1 uS2 uS3 uT0 uT1 uT2 uT3 uF0 uF1 uLB0 uLB1 uLB2 uLB3 uLB4 uLB5 uLB6 uLB7
            go_wp2_with fail
            rw [rounds_succ]
            go_upto_region 12 with fail
            obtain ⟨uS0, uS1, uS2, uS3⟩ := reg_4 S
            obtain ⟨uT0, uT1, uT2, uT3⟩ := reg_4 T
            obtain ⟨uF0, uF1⟩ := reg_2 F
            obtain ⟨uLB0, uLB1, uLB2, uLB3, uLB4, uLB5, uLB6, uLB7⟩ := reg_8 LB
            refine wp_region_quiet_below (by kernel_rfl) (by kernel_rfl) ?_
            repeat (first | go_big_quiet_step (first | (go_at_call 32; with_reducible exact Calls.regrown_of (C3.out _ (hs.below (below_regrown _ _ _))))))
            refine wpQuiet_nil ?_
            intro _ hw'
            obtain ⟨⟨dq, osq⟩, hw''⟩ := hw'
            subst hw''
            have J := below_regrown v7 dq osq
            generalize grow (redrawn v7 dq) osq = v8 at J ⊢
            replace S := keep J S
            replace T := keep J T
            replace F := keep J F
            replace LB := keep J LB
            replace BW := bw_trans BW J
            replace hs := hs.below J
            clear J uS0 uS1 uS2 uS3 uT0 uT1 uT2 uT3 uF0 uF1 uLB0 uLB1 uLB2 uLB3 uLB4 uLB5 uLB6 uLB7
            go_upto_region 14 with fail
            rcases three n3 nf d3 df with a3 | ⟨a3, b3⟩ | ⟨a3, b3⟩
            · skip
              obtain ⟨uS0, uS1, uS2, uS3⟩ := reg_4 S
              obtain ⟨uT0, uT1, uT2, uT3⟩ := reg_4 T
              obtain ⟨uF0, uF1⟩ := reg_2 F
              obtain ⟨uLB0, uLB1, uLB2, uLB3, uLB4, uLB5, uLB6, uLB7⟩ := reg_8 LB
              refine wp_region_quiet_below (by kernel_rfl) (by kernel_rfl) ?_
              repeat (first | go_big_quiet_step (first | (go_at_call 32; with_reducible exact Calls.regrown_of (C3.out _ (hs.below (below_regrown _ _ _))))))
              refine wpQuiet_nil ?_
              intro _ hw'
              obtain ⟨⟨dq, osq⟩, hw''⟩ := hw'
              subst hw''
              have J := below_regrown v8 dq osq
              generalize grow (redrawn v8 dq) osq = v9 at J ⊢
              replace S := keep J S
              replace T := keep J T
              replace F := keep J F
              replace LB := keep J LB
              replace BW := bw_trans BW J
              replace hs := hs.below J
              clear J uS0 uS1 uS2 uS3 uT0 uT1 uT2 uT3 uF0 uF1 uLB0 uLB1 uLB2 uLB3 uLB4 uLB5 uLB6 uLB7
              go_wp2_with fail
              rw [rounds_succ]
              have hm : mm = true := by
                rcases ONE.out with (h | h | h | h) | h
                · simp only [Prod.mk.injEq] at h; simp [h.1] at a0
                · simp only [Prod.mk.injEq] at h; simp [h.1] at a1
                · simp only [Prod.mk.injEq] at h; simp [h.2] at b2
                · simp only [Prod.mk.injEq] at h; simp [h.1] at a3
                · exact h
              rw [hm] at MM
              clear ONE hm
              have zS := blk_lt S
              obtain ⟨fS0, fS1, fS2, fS3⟩ := blk_4 S
              have zT := blk_lt T
              obtain ⟨fT0, fT1, fT2, fT3⟩ := blk_4 T
              have zF := blk_lt F
              obtain ⟨fF0, fF1⟩ := blk_2 F
              have zLB := blk_lt LB
              obtain ⟨fLB0, fLB1, fLB2, fLB3, fLB4, fLB5, fLB6, fLB7⟩ := blk_8 LB
              go_wp2_with fail
              refine (MM.out _).mono ?_
              rintro e v10 ⟨rfl, J⟩
              replace S := keep J S
              replace T := keep J T
              replace F := keep J F
              replace LB := keep J LB
              replace BW := bw_trans BW J
              replace hs := hs.below J
              clear J
              clear zS fS0 fS1 fS2 fS3 zT fT0 fT1 fT2 fT3 zF fF0 fF1 zLB fLB0 fLB1 fLB2 fLB3 fLB4 fLB5 fLB6 fLB7
              go_wp2_with fail
              go_ret
              exact ⟨rfl, BW⟩
            · skip
              obtain ⟨uS0, uS1, uS2, uS3⟩ := reg_4 S
              obtain ⟨uT0, uT1, uT2, uT3⟩ := reg_4 T
              obtain ⟨uF0, uF1⟩ := reg_2 F
              obtain ⟨uLB0, uLB1, uLB2, uLB3, uLB4, uLB5, uLB6, uLB7⟩ := reg_8 LB
              refine wp_region_quiet_below (by kernel_rfl) (by kernel_rfl) ?_
              repeat (first | go_big_quiet_step (first | (go_at_call 32; with_reducible exact Calls.regrown_of (C3.out _ (hs.below (below_regrown _ _ _))))))
              refine wpQuiet_nil ?_
              intro _ hw'
              obtain ⟨⟨dq, osq⟩, hw''⟩ := hw'
              subst hw''
              have J := below_regrown v8 dq osq
              generalize grow (redrawn v8 dq) osq = v9 at J ⊢
              replace S := keep J S
              replace T := keep J T
              replace F := keep J F
              replace LB := keep J LB
              replace BW := bw_trans BW J
              replace hs := hs.below J
              clear J uS0 uS1 uS2 uS3 uT0 uT1 uT2 uT3 uF0 uF1 uLB0 uLB1 uLB2 uLB3 uLB4 uLB5 uLB6 uLB7
              go_wp2_with fail
              rw [rounds_succ]
              have hm : mm = true := by
                rcases ONE.out with (h | h | h | h) | h
                · simp only [Prod.mk.injEq] at h; simp [h.1] at a0
                · simp only [Prod.mk.injEq] at h; simp [h.1] at a1
                · simp only [Prod.mk.injEq] at h; simp [h.2] at b2
                · simp only [Prod.mk.injEq] at h; simp [h.2] at b3
                · exact h
              rw [hm] at MM
              clear ONE hm
              have zS := blk_lt S
              obtain ⟨fS0, fS1, fS2, fS3⟩ := blk_4 S
              have zT := blk_lt T
              obtain ⟨fT0, fT1, fT2, fT3⟩ := blk_4 T
              have zF := blk_lt F
              obtain ⟨fF0, fF1⟩ := blk_2 F
              have zLB := blk_lt LB
              obtain ⟨fLB0, fLB1, fLB2, fLB3, fLB4, fLB5, fLB6, fLB7⟩ := blk_8 LB
              go_wp2_with fail
              refine (MM.out _).mono ?_
              rintro e v10 ⟨rfl, J⟩
              replace S := keep J S
              replace T := keep J T
              replace F := keep J F
              replace LB := keep J LB
              replace BW := bw_trans BW J
              replace hs := hs.below J
              clear J
              clear zS fS0 fS1 fS2 fS3 zT fT0 fT1 fT2 fT3 zF fF0 fF1 zLB fLB0 fLB1 fLB2 fLB3 fLB4 fLB5 fLB6 fLB7
              go_wp2_with fail
              go_ret
              exact ⟨rfl, BW⟩
            · skip
              obtain ⟨uS0, uS1, uS2, uS3⟩ := reg_4 S
              obtain ⟨uT0, uT1, uT2, uT3⟩ := reg_4 T
              obtain ⟨uF0, uF1⟩ := reg_2 F
              obtain ⟨uLB0, uLB1, uLB2, uLB3, uLB4, uLB5, uLB6, uLB7⟩ := reg_8 LB
              refine wp_region_quiet_below (by kernel_rfl) (by kernel_rfl) ?_
              repeat (first | go_big_quiet_step (first | (go_at_call 32; with_reducible exact Calls.regrown_of (C3.out _ (hs.below (below_regrown _ _ _))))))
              refine wpQuiet_nil ?_
              intro _ hw'
              obtain ⟨⟨dq, osq⟩, hw''⟩ := hw'
              subst hw''
              have J := below_regrown v8 dq osq
              generalize grow (redrawn v8 dq) osq = v9 at J ⊢
              replace S := keep J S
              replace T := keep J T
              replace F := keep J F
              replace LB := keep J LB
              replace BW := bw_trans BW J
              replace hs := hs.below J
              clear J uS0 uS1 uS2 uS3 uT0 uT1 uT2 uT3 uF0 uF1 uLB0 uLB1 uLB2 uLB3 uLB4 uLB5 uLB6 uLB7
              go_wp2_with fail
              rw [rounds_succ]
              go_wp2_with fail
              go_ret
              exact ⟨rfl, BW⟩
          · skip
            obtain ⟨uS0, uS1, uS2, uS3⟩ := reg_4 S
            obtain ⟨uT0, uT1, uT2, uT3⟩ := reg_4 T
            obtain ⟨uF0, uF1⟩ := reg_2 F
            obtain ⟨uLB0, uLB1, uLB2, uLB3, uLB4, uLB5, uLB6, uLB7⟩ := reg_8 LB
            refine wp_region_quiet_below (by kernel_rfl) (by kernel_rfl) ?_
            repeat (first | go_big_quiet_step (first | (go_at_call 32; with_reducible exact Calls.regrown_of (C2.out _ (hs.below (below_regrown _ _ _))))))
            refine wpQuiet_nil ?_
            intro _ hw'
            obtain ⟨⟨dq, osq⟩, hw''⟩ := hw'
            subst hw''
            have J := below_regrown v6 dq osq
            generalize grow (redrawn v6 dq) osq = v7 at J ⊢
            replace S := keep J S
            replace T := keep J T
            replace F := keep J F
            replace LB := keep J LB
            replace BW := bw_trans BW J
            replace hs := hs.below J
            clear J uS0 uS1 uS2 uS3 uT0 uT1 uT2 uT3 uF0 uF1 uLB0 uLB1 uLB2 uLB3 uLB4 uLB5 uLB6 uLB7
            go_wp2_with fail
            rw [rounds_succ]
            go_upto_region 12 with fail
            obtain ⟨uS0, uS1, uS2, uS3⟩ := reg_4 S
            obtain ⟨uT0, uT1, uT2, uT3⟩ := reg_4 T
            obtain ⟨uF0, uF1⟩ := reg_2 F
            obtain ⟨uLB0, uLB1, uLB2, uLB3, uLB4, uLB5, uLB6, uLB7⟩ := reg_8 LB
            refine wp_region_quiet_below (by kernel_rfl) (by kernel_rfl) ?_
            repeat (first | go_big_quiet_step (first | (go_at_call 32; with_reducible exact Calls.regrown_of (C3.out _ (hs.below (below_regrown _ _ _))))))
            refine wpQuiet_nil ?_
            intro _ hw'
            obtain ⟨⟨dq, osq⟩, hw''⟩ := hw'
            subst hw''
            have J := below_regrown v7 dq osq
            generalize grow (redrawn v7 dq) osq = v8 at J ⊢
            replace S := keep J S
            replace T := keep J T
            replace F := keep J F
            replace LB := keep J LB
            replace BW := bw_trans BW J
            replace hs := hs.below J
            clear J uS0 uS1 uS2 uS3 uT0 uT1 uT2 uT3 uF0 uF1 uLB0 uLB1 uLB2 uLB3 uLB4 uLB5 uLB6 uLB7
            go_upto_region 14 with fail
            obtain ⟨uS0, uS1, uS2, uS3⟩ := reg_4 S
            obtain ⟨uT0, uT1, uT2, uT3⟩ := reg_4 T
            obtain ⟨uF0, uF1⟩ := reg_2 F
            obtain ⟨uLB0, uLB1, uLB2, uLB3, uLB4, uLB5, uLB6, uLB7⟩ := reg_8 LB
            refine wp_region_quiet_below (by kernel_rfl) (by kernel_rfl) ?_
            repeat (first | go_big_quiet_step (first | (go_at_call 32; with_reducible exact Calls.regrown_of (C3.out _ (hs.below (below_regrown _ _ _))))))
            refine wpQuiet_nil ?_
            intro _ hw'
            obtain ⟨⟨dq, osq⟩, hw''⟩ := hw'
            subst hw''
            have J := below_regrown v8 dq osq
            generalize grow (redrawn v8 dq) osq = v9 at J ⊢
            replace S := keep J S
            replace T := keep J T
            replace F := keep J F
            replace LB := keep J LB
            replace BW := bw_trans BW J
            replace hs := hs.below J
            clear J uS0 uS1 uS2 uS3 uT0 uT1 uT2 uT3 uF0 uF1 uLB0 uLB1 uLB2 uLB3 uLB4 uLB5 uLB6 uLB7
            go_wp2_with fail
            rw [rounds_succ]
            go_wp2_with fail
            go_ret
            exact ⟨rfl, BW⟩
        · skip
          obtain ⟨uS0, uS1, uS2, uS3⟩ := reg_4 S
          obtain ⟨uT0, uT1, uT2, uT3⟩ := reg_4 T
          obtain ⟨uF0, uF1⟩ := reg_2 F
          obtain ⟨uLB0, uLB1, uLB2, uLB3, uLB4, uLB5, uLB6, uLB7⟩ := reg_8 LB
          refine wp_region_quiet_below (by kernel_rfl) (by kernel_rfl) ?_
          repeat (first | go_big_quiet_step (first | (go_at_call 32; with_reducible exact Calls.regrown_of (C1.out _ (hs.below (below_regrown _ _ _))))))
          refine wpQuiet_nil ?_
          intro _ hw'
          obtain ⟨⟨dq, osq⟩, hw''⟩ := hw'
          subst hw''
          have J := below_regrown v4 dq osq
          generalize grow (redrawn v4 dq) osq = v5 at J ⊢
          replace S := keep J S
          replace T := keep J T
          replace F := keep J F
          replace LB := keep J LB
          replace BW := bw_trans BW J
          replace hs := hs.below J
          clear J uS0 uS1 uS2 uS3 uT0 uT1 uT2 uT3 uF0 uF1 uLB0 uLB1 uLB2 uLB3 uLB4 uLB5 uLB6 uLB7
          go_wp2_with fail
          rw [rounds_succ]
          go_upto_region 12 with fail
          obtain ⟨uS0, uS1, uS2, uS3⟩ := reg_4 S
          obtain ⟨uT0, uT1, uT2, uT3⟩ := reg_4 T
          obtain ⟨uF0, uF1⟩ := reg_2 F
          obtain ⟨uLB0, uLB1, uLB2, uLB3, uLB4, uLB5, uLB6, uLB7⟩ := reg_8 LB
          refine wp_region_quiet_below (by kernel_rfl) (by kernel_rfl) ?_
          repeat (first | go_big_quiet_step (first | (go_at_call 32; with_reducible exact Calls.regrown_of (C2.out _ (hs.below (below_regrown _ _ _))))))
          refine wpQuiet_nil ?_
          intro _ hw'
          obtain ⟨⟨dq, osq⟩, hw''⟩ := hw'
          subst hw''
          have J := below_regrown v5 dq osq
          generalize grow (redrawn v5 dq) osq = v6 at J ⊢
          replace S := keep J S
          replace T := keep J T
          replace F := keep J F
          replace LB := keep J LB
          replace BW := bw_trans BW J
          replace hs := hs.below J
          clear J uS0 uS1 uS2 uS3 uT0 uT1 uT2 uT3 uF0 uF1 uLB0 uLB1 uLB2 uLB3 uLB4 uLB5 uLB6 uLB7
          go_upto_region 14 with fail
          rcases three n2 nf d2 df with a2 | ⟨a2, b2⟩ | ⟨a2, b2⟩
          · skip
            obtain ⟨uS0, uS1, uS2, uS3⟩ := reg_4 S
            obtain ⟨uT0, uT1, uT2, uT3⟩ := reg_4 T
            obtain ⟨uF0, uF1⟩ := reg_2 F
            obtain ⟨uLB0, uLB1, uLB2, uLB3, uLB4, uLB5, uLB6, uLB7⟩ := reg_8 LB
            refine wp_region_quiet_below (by kernel_rfl) (by kernel_rfl) ?_
            repeat (first | go_big_quiet_step (first | (go_at_call 32; with_reducible exact Calls.regrown_of (C2.out _ (hs.below (below_regrown _ _ _))))))
            refine wpQuiet_nil ?_
            intro _ hw'
            obtain ⟨⟨dq, osq⟩, hw''⟩ := hw'
            subst hw''
            have J := below_regrown v6 dq osq
            generalize grow (redrawn v6 dq) osq = v7 at J ⊢
            replace S := keep J S
            replace T := keep J T
            replace F := keep J F
            replace LB := keep J LB
            replace BW := bw_trans BW J
            replace hs := hs.below J
            clear J uS0 uS1 uS2 uS3 uT0 uT1 uT2 uT3 uF0 uF1 uLB0 uLB1 uLB2 uLB3 uLB4 uLB5 uLB6 uLB7
            go_wp2_with fail
            rw [rounds_succ]
            go_upto_region 12 with fail
            obtain ⟨uS0, uS1, uS2, uS3⟩ := reg_4 S
            obtain ⟨uT0, uT1, uT2, uT3⟩ := reg_4 T
            obtain ⟨uF0, uF1⟩ := reg_2 F
            obtain ⟨uLB0, uLB1, uLB2, uLB3, uLB4, uLB5, uLB6, uLB7⟩ := reg_8 LB
            refine wp_region_quiet_below (by kernel_rfl) (by kernel_rfl) ?_
            repeat (first | go_big_quiet_step (first | (go_at_call 32; with_reducible exact Calls.regrown_of (C3.out _ (hs.below (below_regrown _ _ _))))))
            refine wpQuiet_nil ?_
            intro _ hw'
            obtain ⟨⟨dq, osq⟩, hw''⟩ := hw'
            subst hw''
            have J := below_regrown v7 dq osq
            generalize grow (redrawn v7 dq) osq = v8 at J ⊢
            replace S := keep J S
            replace T := keep J T
            replace F := keep J F
            replace LB := keep J LB
            replace BW := bw_trans BW J
            replace hs := hs.below J
            clear J uS0 uS1 uS2 uS3 uT0 uT1 uT2 uT3 uF0 uF1 uLB0 uLB1 uLB2 uLB3 uLB4 uLB5 uLB6 uLB7
            go_upto_region 14 with fail
            rcases three n3 nf d3 df with a3 | ⟨a3, b3⟩ | ⟨a3, b3⟩
            · skip
              obtain ⟨uS0, uS1, uS2, uS3⟩ := reg_4 S
              obtain ⟨uT0, uT1, uT2, uT3⟩ := reg_4 T
              obtain ⟨uF0, uF1⟩ := reg_2 F
              obtain ⟨uLB0, uLB1, uLB2, uLB3, uLB4, uLB5, uLB6, uLB7⟩ := reg_8 LB
              refine wp_region_quiet_below (by kernel_rfl) (by kernel_rfl) ?_
              repeat (first | go_big_quiet_step (first | (go_at_call 32; with_reducible exact Calls.regrown_of (C3.out _ (hs.below (below_regrown _ _ _))))))
              refine wpQuiet_nil ?_
              intro _ hw'
              obtain ⟨⟨dq, osq⟩, hw''⟩ := hw'
              subst hw''
              have J := below_regrown v8 dq osq
              generalize grow (redrawn v8 dq) osq = v9 at J ⊢
              replace S := keep J S
              replace T := keep J T
              replace F := keep J F
              replace LB := keep J LB
              replace BW := bw_trans BW J
              replace hs := hs.below J
              clear J uS0 uS1 uS2 uS3 uT0 uT1 uT2 uT3 uF0 uF1 uLB0 uLB1 uLB2 uLB3 uLB4 uLB5 uLB6 uLB7
              go_wp2_with fail
              rw [rounds_succ]
              have hm : mm = true := by
                rcases ONE.out with (h | h | h | h) | h
                · simp only [Prod.mk.injEq] at h; simp [h.1] at a0
                · simp only [Prod.mk.injEq] at h; simp [h.2] at b1
                · simp only [Prod.mk.injEq] at h; simp [h.1] at a2
                · simp only [Prod.mk.injEq] at h; simp [h.1] at a3
                · exact h
              rw [hm] at MM
              clear ONE hm
              have zS := blk_lt S
              obtain ⟨fS0, fS1, fS2, fS3⟩ := blk_4 S
              have zT := blk_lt T
              obtain ⟨fT0, fT1, fT2, fT3⟩ := blk_4 T
              have zF := blk_lt F
              obtain ⟨fF0, fF1⟩ := blk_2 F
              have zLB := blk_lt LB
              obtain ⟨fLB0, fLB1, fLB2, fLB3, fLB4, fLB5, fLB6, fLB7⟩ := blk_8 LB
              go_wp2_with fail
              refine (MM.out _).mono ?_
              rintro e v10 ⟨rfl, J⟩
              replace S := keep J S
              replace T := keep J T
              replace F := keep J F
              replace LB := keep J LB
              replace BW := bw_trans BW J
              replace hs := hs.below J
              clear J
              clear zS fS0 fS1 fS2 fS3 zT fT0 fT1 fT2 fT3 zF fF0 fF1 zLB fLB0 fLB1 fLB2 fLB3 fLB4 fLB5 fLB6 fLB7
              go_wp2_with fail
              go_ret
              exact ⟨rfl, BW⟩
            · skip
              obtain ⟨uS0, uS1, uS2, uS3⟩ := reg_4 S
              obtain ⟨uT0, uT1, uT2, uT3⟩ := reg_4 T
              obtain ⟨uF0, uF1⟩ := reg_2 F
              obtain ⟨uLB0, uLB1, uLB2, uLB3, uLB4, uLB5, uLB6, uLB7⟩ := reg_8 LB
              refine wp_region_quiet_below (by kernel_rfl) (by kernel_rfl) ?_
              repeat (first | go_big_quiet_step (first | (go_at_call 32; with_reducible exact Calls.regrown_of (C3.out _ (hs.below (below_regrown _ _ _))))))
              refine wpQuiet_nil ?_
              intro _ hw'
              obtain ⟨⟨dq, osq⟩, hw''⟩ := hw'
              subst hw''
              have J := below_regrown v8 dq osq
              generalize grow (redrawn v8 dq) osq = v9 at J ⊢
              replace S := keep J S
              replace T := keep J T
              replace F := keep J F
              replace LB := keep J LB
              replace BW := bw_trans BW J
              replace hs := hs.below J
              clear J uS0 uS1 uS2 uS3 uT0 uT1 uT2 uT3 uF0 uF1 uLB0 uLB1 uLB2 uLB3 uLB4 uLB5 uLB6 uLB7
              go_wp2_with fail
              rw [rounds_succ]
              have hm : mm = true := by
                rcases ONE.out with (h | h | h | h) | h
                · simp only [Prod.mk.injEq] at h; simp [h.1] at a0
                · simp only [Prod.mk.injEq] at h; simp [h.2] at b1
                · simp only [Prod.mk.injEq] at h; simp [h.1] at a2
                · simp only [Prod.mk.injEq] at h; simp [h.2] at b3
                · exact h
              rw [hm] at MM
              clear ONE hm
              have zS := blk_lt S
              obtain ⟨fS0, fS1, fS2, fS3⟩ := blk_4 S
              have zT := blk_lt T
              obtain ⟨fT0, fT1, fT2, fT3⟩ := blk_4 T
              have zF := blk_lt F
              obtain ⟨fF0, fF1⟩ := blk_2 F
              have zLB := blk_lt LB
              obtain ⟨fLB0, fLB1, fLB2, fLB3, fLB4, fLB5, fLB6, fLB7⟩ := blk_8 LB
              go_wp2_with fail
              refine (MM.out _).mono ?_
              rintro e v10 ⟨rfl, J⟩
              replace S := keep J S
              replace T := keep J T
              replace F := keep J F
              replace LB := keep J LB
              replace BW := bw_trans BW J
              replace hs := hs.below J
              clear J
              clear zS fS0 fS1 fS2 fS3 zT fT0 fT1 fT2 fT3 zF fF0 fF1 zLB fLB0 fLB1 fLB2 fLB3 fLB4 fLB5 fLB6 fLB7
              go_wp2_with fail
              go_ret
              exact ⟨rfl, BW⟩
            · skip
              obtain ⟨uS0, uS1, uS2, uS3⟩ := reg_4 S
              obtain ⟨uT0, uT1, uT2, uT3⟩ := reg_4 T
              obtain ⟨uF0, uF1⟩ := reg_2 F
              obtain ⟨uLB0, uLB1, uLB2, uLB3, uLB4, uLB5, uLB6, uLB7⟩ := reg_8 LB
              refine wp_region_quiet_below (by kernel_rfl) (by kernel_rfl) ?_
              repeat (first | go_big_quiet_step (first | (go_at_call 32; with_reducible exact Calls.regrown_of (C3.out _ (hs.below (below_regrown _ _ _))))))
              refine wpQuiet_nil ?_
              intro _ hw'
              obtain ⟨⟨dq, osq⟩, hw''⟩ := hw'
              subst hw''
              have J := below_regrown v8 dq osq
              generalize grow (redrawn v8 dq) osq = v9 at J ⊢
              replace S := keep J S
              replace T := keep J T
              replace F := keep J F
              replace LB := keep J LB
              replace BW := bw_trans BW J
              replace hs := hs.below J
              clear J uS0 uS1 uS2 uS3 uT0 uT1 uT2 uT3 uF0 uF1 uLB0 uLB1 uLB2 uLB3 uLB4 uLB5 uLB6 uLB7
              go_wp2_with fail
              rw [rounds_succ]
              go_wp2_with fail
              go_ret
              exact ⟨rfl, BW⟩
          · skip
            obtain ⟨uS0, uS1, uS2, uS3⟩ := reg_4 S
            obtain ⟨uT0, uT1, uT2, uT3⟩ := reg_4 T
            obtain ⟨uF0, uF1⟩ := reg_2 F
            obtain ⟨uLB0, uLB1, uLB2, uLB3, uLB4, uLB5, uLB6, uLB7⟩ := reg_8 LB
            refine wp_region_quiet_below (by kernel_rfl) (by kernel_rfl) ?_
            repeat (first | go_big_quiet_step (first | (go_at_call 32; with_reducible exact Calls.regrown_of (C2.out _ (hs.below (below_regrown _ _ _))))))
            refine wpQuiet_nil ?_
            intro _ hw'
            obtain ⟨⟨dq, osq⟩, hw''⟩ := hw'
            subst hw''
            have J := below_regrown v6 dq osq
            generalize grow (redrawn v6 dq) osq = v7 at J ⊢
            replace S := keep J S
            replace T := keep J T
            replace F := keep J F
            replace LB := keep J LB
            replace BW := bw_trans BW J
            replace hs := hs.below J
            clear J uS0 uS1 uS2 uS3 uT0 uT1 uT2 uT3 uF0 uF1 uLB0 uLB1 uLB2 uLB3 uLB4 uLB5 uLB6 uLB7
            go_wp2_with fail
            rw [rounds_succ]
            go_upto_region 12 with fail
            obtain ⟨uS0, uS1, uS2, uS3⟩ := reg_4 S
            obtain ⟨uT0, uT1, uT2, uT3⟩ := reg_4 T
            obtain ⟨uF0, uF1⟩ := reg_2 F
            obtain ⟨uLB0, uLB1, uLB2, uLB3, uLB4, uLB5, uLB6, uLB7⟩ := reg_8 LB
            refine wp_region_quiet_below (by kernel_rfl) (by kernel_rfl) ?_
            repeat (first | go_big_quiet_step (first | (go_at_call 32; with_reducible exact Calls.regrown_of (C3.out _ (hs.below (below_regrown _ _ _))))))
            refine wpQuiet_nil ?_
            intro _ hw'
            obtain ⟨⟨dq, osq⟩, hw''⟩ := hw'
            subst hw''
            have J := below_regrown v7 dq osq
            generalize grow (redrawn v7 dq) osq = v8 at J ⊢
            replace S := keep J S
            replace T := keep J T
            replace F := keep J F
            replace LB := keep J LB
            replace BW := bw_trans BW J
            replace hs := hs.below J
            clear J uS0 uS1 uS2 uS3 uT0 uT1 uT2 uT3 uF0 uF1 uLB0 uLB1 uLB2 uLB3 uLB4 uLB5 uLB6 uLB7
            go_upto_region 14 with fail
            rcases three n3 nf d3 df with a3 | ⟨a3, b3⟩ | ⟨a3, b3⟩
            · skip
              obtain ⟨uS0, uS1, uS2, uS3⟩ := reg_4 S
              obtain ⟨uT0, uT1, uT2, uT3⟩ := reg_4 T
              obtain ⟨uF0, uF1⟩ := reg_2 F
              obtain ⟨uLB0, uLB1, uLB2, uLB3, uLB4, uLB5, uLB6, uLB7⟩ := reg_8 LB
              refine wp_region_quiet_below (by kernel_rfl) (by kernel_rfl) ?_
              repeat (first | go_big_quiet_step (first | (go_at_call 32; with_reducible exact Calls.regrown_of (C3.out _ (hs.below (below_regrown _ _ _))))))
              refine wpQuiet_nil ?_
              intro _ hw'
              obtain ⟨⟨dq, osq⟩, hw''⟩ := hw'
              subst hw''
              have J := below_regrown v8 dq osq
              generalize grow (redrawn v8 dq) osq = v9 at J ⊢
              replace S := keep J S
              replace T := keep J T
              replace F := keep J F
              replace LB := keep J LB
              replace BW := bw_trans BW J
              replace hs := hs.below J
              clear J uS0 uS1 uS2 uS3 uT0 uT1 uT2 uT3 uF0 uF1 uLB0 uLB1 uLB2 uLB3 uLB4 uLB5 uLB6 uLB7
              go_wp2_with fail
              rw [rounds_succ]
              have hm : mm = true := by
                rcases ONE.out with (h | h | h | h) | h
                · simp only [Prod.mk.injEq] at h; simp [h.1] at a0
                · simp only [Prod.mk.injEq] at h; simp [h.2] at b1
                · simp only [Prod.mk.injEq] at h; simp [h.2] at b2
                · simp only [Prod.mk.injEq] at h; simp [h.1] at a3
                · exact h
              rw [hm] at MM
              clear ONE hm
              have zS := blk_lt S
              obtain ⟨fS0, fS1, fS2, fS3⟩ := blk_4 S
              have zT := blk_lt T
              obtain ⟨fT0, fT1, fT2, fT3⟩ := blk_4 T
              have zF := blk_lt F
              obtain ⟨fF0, fF1⟩ := blk_2 F
              have zLB := blk_lt LB
              obtain ⟨fLB0, fLB1, fLB2, fLB3, fLB4, fLB5, fLB6, fLB7⟩ := blk_8 LB
              go_wp2_with fail
              refine (MM.out _).mono ?_
              rintro e v10 ⟨rfl, J⟩
              replace S := keep J S
              replace T := keep J T
              replace F := keep J F
              replace LB := keep J LB
              replace BW := bw_trans BW J
              replace hs := hs.below J
              clear J
              clear zS fS0 fS1 fS2 fS3 zT fT0 fT1 fT2 fT3 zF fF0 fF1 zLB fLB0 fLB1 fLB2 fLB3 fLB4 fLB5 fLB6 fLB7
              go_wp2_with fail
              go_ret
              exact ⟨rfl, BW⟩
            · skip
              obtain ⟨uS0, uS1, uS2, uS3⟩ := reg_4 S
              obtain ⟨uT0, uT1, uT2, uT3⟩ := reg_4 T
              obtain ⟨uF0, uF1⟩ := reg_2 F
              obtain ⟨uLB0, uLB1, uLB2, uLB3, uLB4, uLB5, uLB6, uLB7⟩ := reg_8 LB
              refine wp_region_quiet_below (by kernel_rfl) (by kernel_rfl) ?_
              repeat (first | go_big_quiet_step (first | (go_at_call 32; with_reducible exact Calls.regrown_of (C3.out _ (hs.below (below_regrown _ _ _))))))
              refine wpQuiet_nil ?_
              intro _ hw'
              obtain ⟨⟨dq, osq⟩, hw''⟩ := hw'
              subst hw''
              have J := below_regrown v8 dq osq
              generalize grow (redrawn v8 dq) osq = v9 at J ⊢
              replace S := keep J S
              replace T := keep J T
              replace F := keep J F
              replace LB := keep J LB
              replace BW := bw_trans BW J
              replace hs := hs.below J
              clear J uS0 uS1 uS2 uS3 uT0 uT1 uT2 uT3 uF0 uF1 uLB0 uLB1 uLB2 uLB3 uLB4 uLB5 uLB6 uLB7
              go_wp2_with fail
              rw [rounds_succ]
              have hm : mm = true := by
                rcases ONE.out with (h | h | h | h) | h
                · simp only [Prod.mk.injEq] at h; simp [h.1] at a0
                · simp only [Prod.mk.injEq] at h; simp [h.2] at b1
                · simp only [Prod.mk.injEq] at h; simp [h.2] at b2
                · simp only [Prod.mk.injEq] at h; simp [h.2] at b3
                · exact h
              rw [hm] at MM
              clear ONE hm
              have zS := blk_lt S
              obtain ⟨fS0, fS1, fS2, fS3⟩ := blk_4 S
              have zT := blk_lt T
              obtain ⟨fT0, fT1, fT2, fT3⟩ := blk_4 T
              have zF := blk_lt F
              obtain ⟨fF0, fF1⟩ := blk_2 F
              have zLB := blk_lt LB
              obtain ⟨fLB0, fLB1, fLB2, fLB3, fLB4, fLB5, fLB6, fLB7⟩ := blk_8 LB
              go_wp2_with fail
              refine (MM.out _).mono ?_
              rintro e v10 ⟨rfl, J⟩
              replace S := keep J S
              replace T := keep J T
              replace F := keep J F
              replace LB := keep J LB
              replace BW := bw_trans BW J
              replace hs := hs.below J
              clear J
              clear zS fS0 fS1 fS2 fS3 zT fT0 fT1 fT2 fT3 zF fF0 fF1 zLB fLB0 fLB1 fLB2 fLB3 fLB4 fLB5 fLB6 fLB7
              go_wp2_with fail
              go_ret
              exact ⟨rfl, BW⟩
            · skip
              obtain ⟨uS0, uS1, uS2, uS3⟩ := reg_4 S
              obtain ⟨uT0, uT1, uT2, uT3⟩ := reg_4 T
              obtain ⟨uF0, uF1⟩ := reg_2 F
              obtain ⟨uLB0, uLB1, uLB2, uLB3, uLB4, uLB5, uLB6, uLB7⟩ := reg_8 LB
              refine wp_region_quiet_below (by kernel_rfl) (by kernel_rfl) ?_
              repeat (first | go_big_quiet_step (first | (go_at_call 32; with_reducible exact Calls.regrown_of (C3.out _ (hs.below (below_regrown _ _ _))))))
              refine wpQuiet_nil ?_
              intro _ hw'
              obtain ⟨⟨dq, osq⟩, hw''⟩ := hw'
              subst hw''
              have J := below_regrown v8 dq osq
              generalize grow (redrawn v8 dq) osq = v9 at J ⊢
              replace S := keep J S
              replace T := keep J T
              replace F := keep J F
              replace LB := keep J LB
              replace BW := bw_trans BW J
              replace hs := hs.below J
              clear J uS0 uS1 uS2 uS3 uT0 uT1 uT2 uT3 uF0 uF1 uLB0 uLB1 uLB2 uLB3 uLB4 uLB5 uLB6 uLB7
              go_wp2_with fail
              rw [rounds_succ]
              go_wp2_with fail
              go_ret
              exact ⟨rfl, BW⟩
          · skip
            obtain ⟨uS0, uS1, uS2, uS3⟩ := reg_4 S
            obtain ⟨uT0, uT1, uT2, uT3⟩ := reg_4 T
            obtain ⟨uF0, uF1⟩ := reg_2 F
            obtain ⟨uLB0, uLB1, uLB2, uLB3, uLB4, uLB5, uLB6, uLB7⟩ := reg_8 LB
            refine wp_region_quiet_below (by kernel_rfl) (by kernel_rfl) ?_
            repeat (first | go_big_quiet_step (first | (go_at_call 32; with_reducible exact Calls.regrown_of (C2.out _ (hs.below (below_regrown _ _ _))))))
            refine wpQuiet_nil ?_
            intro _ hw'
            obtain ⟨⟨dq, osq⟩, hw''⟩ := hw'
            subst hw''
            have J := below_regrown v6 dq osq
            generalize grow (redrawn v6 dq) osq = v7 at J ⊢
            replace S := keep J S
            replace T := keep J T
            replace F := keep J F
            replace LB := keep J LB
            replace BW := bw_trans BW J
            replace hs := hs.below J
            clear J uS0 uS1 uS2 uS3 uT0 uT1 uT2 uT3 uF0 uF1 uLB0 uLB1 uLB2 uLB3 uLB4 uLB5 uLB6 uLB7
            go_wp2_with fail
            rw [rounds_succ]
            go_upto_region 12 with fail
            obtain ⟨uS0, uS1, uS2, uS3⟩ := reg_4 S
            obtain ⟨uT0, uT1, uT2, uT3⟩ := reg_4 T
            obtain ⟨uF0, uF1⟩ := reg_2 F
            obtain ⟨uLB0, uLB1, uLB2, uLB3, uLB4, uLB5, uLB6, uLB7⟩ := reg_8 LB
            refine wp_region_quiet_below (by kernel_rfl) (by kernel_rfl) ?_
            repeat (first | go_big_quiet_step (first | (go_at_call 32; with_reducible exact Calls.regrown_of (C3.out _ (hs.below (below_regrown _ _ _))))))
            refine wpQuiet_nil ?_
            intro _ hw'
            obtain ⟨⟨dq, osq⟩, hw''⟩ := hw'
            subst hw''
            have J := below_regrown v7 dq osq
            generalize grow (redrawn v7 dq) osq = v8 at J ⊢
            replace S := keep J S
            replace T := keep J T
            replace F := keep J F
            replace LB := keep J LB
            replace BW := bw_trans BW J
            replace hs := hs.below J
            clear J uS0 uS1 uS2 uS3 uT0 uT1 uT2 uT3 uF0 uF1 uLB0 uLB1 uLB2 uLB3 uLB4 uLB5 uLB6 uLB7
            go_upto_region 14 with fail
            obtain ⟨uS0, uS1, uS2, uS3⟩ := reg_4 S
            obtain ⟨uT0, uT1, uT2, uT3⟩ := reg_4 T
            obtain ⟨uF0, uF1⟩ := reg_2 F
            obtain ⟨uLB0, uLB1, uLB2, uLB3, uLB4, uLB5, uLB6, uLB7⟩ := reg_8 LB
            refine wp_region_quiet_below (by kernel_rfl) (by kernel_rfl) ?_
            repeat (first | go_big_quiet_step (first | (go_at_call 32; with_reducible exact Calls.regrown_of (C3.out _ (hs.below (below_regrown _ _ _))))))
            refine wpQuiet_nil ?_
            intro _ hw'
            obtain ⟨⟨dq, osq⟩, hw''⟩ := hw'
            subst hw''
            have J := below_regrown v8 dq osq
            generalize grow (redrawn v8 dq) osq = v9 at J ⊢
            replace S := keep J S
            replace T := keep J T
            replace F := keep J F
            replace LB := keep J LB
            replace BW := bw_trans BW J
            replace hs := hs.below J
            clear J uS0 uS1 uS2 uS3 uT0 uT1 uT2 uT3 uF0 uF1 uLB0 uLB1 uLB2 uLB3 uLB4 uLB5 uLB6 uLB7
            go_wp2_with fail
            rw [rounds_succ]
            go_wp2_with fail
            go_ret
            exact ⟨rfl, BW⟩
        · skip
          obtain ⟨uS0, uS1, uS2, uS3⟩ := reg_4 S
          obtain ⟨uT0, uT1, uT2, uT3⟩ := reg_4 T
          obtain ⟨uF0, uF1⟩ := reg_2 F
          obtain ⟨uLB0, uLB1, uLB2, uLB3, uLB4, uLB5, uLB6, uLB7⟩ := reg_8 LB
          refine wp_region_quiet_below (by kernel_rfl) (by kernel_rfl) ?_
          repeat (first | go_big_quiet_step (first | (go_at_call 32; with_reducible exact Calls.regrown_of (C1.out _ (hs.below (below_regrown _ _ _))))))
          refine wpQuiet_nil ?_
          intro _ hw'
          obtain ⟨⟨dq, osq⟩, hw''⟩ := hw'
          subst hw''
          have J := below_regrown v4 dq osq
          generalize grow (redrawn v4 dq) osq = v5 at J ⊢
          replace S := keep J S
          replace T := keep J T
          replace F := keep J F
          replace LB := keep J LB
          replace BW := bw_trans BW J
          replace hs := hs.below J
          clear J uS0 uS1 uS2 uS3 uT0 uT1 uT2 uT3 uF0 uF1 uLB0 uLB1 uLB2 uLB3 uLB4 uLB5 uLB6 uLB7
          go_wp2_with fail
          rw [rounds_succ]
          go_upto_region 12 with fail
          obtain ⟨uS0, uS1, uS2, uS3⟩ := reg_4 S
          obtain ⟨uT0, uT1, uT2, uT3⟩ := reg_4 T
          obtain ⟨uF0, uF1⟩ := reg_2 F
          obtain ⟨uLB0, uLB1, uLB2, uLB3, uLB4, uLB5, uLB6, uLB7⟩ := reg_8 LB
          refine wp_region_quiet_below (by kernel_rfl) (by kernel_rfl) ?_
          repeat (first | go_big_quiet_step (first | (go_at_call 32; with_reducible exact Calls.regrown_of (C2.out _ (hs.below (below_regrown _ _ _))))))
          refine wpQuiet_nil ?_
          intro _ hw'
          obtain ⟨⟨dq, osq⟩, hw''⟩ := hw'
          subst hw''
          have J := below_regrown v5 dq osq
          generalize grow (redrawn v5 dq) osq = v6 at J ⊢
          replace S := keep J S
          replace T := keep J T
          replace F := keep J F
          replace LB := keep J LB
          replace BW := bw_trans BW J
          replace hs := hs.below J
          clear J uS0 uS1 uS2 uS3 uT0 uT1 uT2 uT3 uF0 uF1 uLB0 uLB1 uLB2 uLB3 uLB4 uLB5 uLB6 uLB7
          go_upto_region 14 with fail
          obtain ⟨uS0, uS1, uS2, uS3⟩ := reg_4 S
          obtain ⟨uT0, uT1, uT2, uT3⟩ := reg_4 T
          obtain ⟨uF0, uF1⟩ := reg_2 F
          obtain ⟨uLB0, uLB1, uLB2, uLB3, uLB4, uLB5, uLB6, uLB7⟩ := reg_8 LB
          refine wp_region_quiet_below (by kernel_rfl) (by kernel_rfl) ?_
          repeat (first | go_big_quiet_step (first | (go_at_call 32; with_reducible exact Calls.regrown_of (C2.out _ (hs.below (below_regrown _ _ _))))))
          refine wpQuiet_nil ?_
          intro _ hw'
          obtain ⟨⟨dq, osq⟩, hw''⟩ := hw'
          subst hw''
          have J := below_regrown v6 dq osq
          generalize grow (redrawn v6 dq) osq = v7 at J ⊢
          replace S := keep J S
          replace T := keep J T
          replace F := keep J F
          replace LB := keep J LB
          replace BW := bw_trans BW J
          replace hs := hs.below J
          clear J uS0 uS1 uS2 uS3 uT0 uT1 uT2 uT3 uF0 uF1 uLB0 uLB1 uLB2 uLB3 uLB4 uLB5 uLB6 uLB7
          go_wp2_with fail
          rw [rounds_succ]
          go_upto_region 12 with fail
          obtain ⟨uS0, uS1, uS2, uS3⟩ := reg_4 S
          obtain ⟨uT0, uT1, uT2, uT3⟩ := reg_4 T
          obtain ⟨uF0, uF1⟩ := reg_2 F
          obtain ⟨uLB0, uLB1, uLB2, uLB3, uLB4, uLB5, uLB6, uLB7⟩ := reg_8 LB
          refine wp_region_quiet_below (by kernel_rfl) (by kernel_rfl) ?_
          repeat (first | go_big_quiet_step (first | (go_at_call 32; with_reducible exact Calls.regrown_of (C3.out _ (hs.below (below_regrown _ _ _))))))
          refine wpQuiet_nil ?_
          intro _ hw'
          obtain ⟨⟨dq, osq⟩, hw''⟩ := hw'
          subst hw''
          have J := below_regrown v7 dq osq
          generalize grow (redrawn v7 dq) osq = v8 at J ⊢
          replace S := keep J S
          replace T := keep J T
          replace F := keep J F
          replace LB := keep J LB
          replace BW := bw_trans BW J
          replace hs := hs.below J
          clear J uS0 uS1 uS2 uS3 uT0 uT1 uT2 uT3 uF0 uF1 uLB0 uLB1 uLB2 uLB3 uLB4 uLB5 uLB6 uLB7
          go_upto_region 14 with fail
          obtain ⟨uS0, uS1, uS2, uS3⟩ := reg_4 S
          obtain ⟨uT0, uT1, uT2, uT3⟩ := reg_4 T
          obtain ⟨uF0, uF1⟩ := reg_2 F
          obtain ⟨uLB0, uLB1, uLB2, uLB3, uLB4, uLB5, uLB6, uLB7⟩ := reg_8 LB
          refine wp_region_quiet_below (by kernel_rfl) (by kernel_rfl) ?_
          repeat (first | go_big_quiet_step (first | (go_at_call 32; with_reducible exact Calls.regrown_of (C3.out _ (hs.below (below_regrown _ _ _))))))
          refine wpQuiet_nil ?_
          intro _ hw'
          obtain ⟨⟨dq, osq⟩, hw''⟩ := hw'
          subst hw''
          have J := below_regrown v8 dq osq
          generalize grow (redrawn v8 dq) osq = v9 at J ⊢
          replace S := keep J S
          replace T := keep J T
          replace F := keep J F
          replace LB := keep J LB
          replace BW := bw_trans BW J
          replace hs := hs.below J
          clear J uS0 uS1 uS2 uS3 uT0 uT1 uT2 uT3 uF0 uF1 uLB0 uLB1 uLB2 uLB3 uLB4 uLB5 uLB6 uLB7
          go_wp2_with fail
          rw [rounds_succ]
          go_wp2_with fail
          go_ret
          exact ⟨rfl, BW⟩
      · skip
        obtain ⟨uS0, uS1, uS2, uS3⟩ := reg_4 S
        obtain ⟨uT0, uT1, uT2, uT3⟩ := reg_4 T
        obtain ⟨uF0, uF1⟩ := reg_2 F
        obtain ⟨uLB0, uLB1, uLB2, uLB3, uLB4, uLB5, uLB6, uLB7⟩ := reg_8 LB
        refine wp_region_quiet_below (by kernel_rfl) (by kernel_rfl) ?_
        repeat (first | go_big_quiet_step (first | (go_at_call 32; with_reducible exact Calls.regrown_of (C0.out _ (hs.below (below_regrown _ _ _))))))
        refine wpQuiet_nil ?_
        intro _ hw'
        obtain ⟨⟨dq, osq⟩, hw''⟩ := hw'
        subst hw''
        have J := below_regrown v2 dq osq
        generalize grow (redrawn v2 dq) osq = v3 at J ⊢
        replace S := keep J S
        replace T := keep J T
        replace F := keep J F
        replace LB := keep J LB
        replace BW := bw_trans BW J
        replace hs := hs.below J
        clear J uS0 uS1 uS2 uS3 uT0 uT1 uT2 uT3 uF0 uF1 uLB0 uLB1 uLB2 uLB3 uLB4 uLB5 uLB6 uLB7
        go_wp2_with fail
        rw [rounds_succ]
        go_upto_region 12 with fail
        obtain ⟨uS0, uS1, uS2, uS3⟩ := reg_4 S
        obtain ⟨uT0, uT1, uT2, uT3⟩ := reg_4 T
        obtain ⟨uF0, uF1⟩ := reg_2 F
        obtain ⟨uLB0, uLB1, uLB2, uLB3, uLB4, uLB5, uLB6, uLB7⟩ := reg_8 LB
        refine wp_region_quiet_below (by kernel_rfl) (by kernel_rfl) ?_
        repeat (first | go_big_quiet_step (first | (go_at_call 32; with_reducible exact Calls.regrown_of (C1.out _ (hs.below (below_regrown _ _ _))))))
        refine wpQuiet_nil ?_
        intro _ hw'
        obtain ⟨⟨dq, osq⟩, hw''⟩ := hw'
        subst hw''
        have J := below_regrown v3 dq osq
        generalize grow (redrawn v3 dq) osq = v4 at J ⊢
        replace S := keep J S
        replace T := keep J T
        replace F := keep J F
        replace LB := keep J LB
        replace BW := bw_trans BW J
        replace hs := hs.below J
        clear J uS0 uS1 uS2 uS3 uT0 uT1 uT2 uT3 uF0 uF1 uLB0 uLB1 uLB2 uLB3 uLB4 uLB5 uLB6 uLB7
        go_upto_region 14 with fail
        rcases three n1 nf d1 df with a1 | ⟨a1, b1⟩ | ⟨a1, b1⟩
        · skip
          obtain ⟨uS0, uS1, uS2, uS3⟩ := reg_4 S
          obtain ⟨uT0, uT1, uT2, uT3⟩ := reg_4 T
          obtain ⟨uF0, uF1⟩ := reg_2 F
          obtain ⟨uLB0, uLB1, uLB2, uLB3, uLB4, uLB5, uLB6, uLB7⟩ := reg_8 LB
          refine wp_region_quiet_below (by kernel_rfl) (by kernel_rfl) ?_
          repeat (first | go_big_quiet_step (first | (go_at_call 32; with_reducible exact Calls.regrown_of (C1.out _ (hs.below (below_regrown _ _ _))))))
          refine wpQuiet_nil ?_
          intro _ hw'
          obtain ⟨⟨dq, osq⟩, hw''⟩ := hw'
          subst hw''
          have J := below_regrown v4 dq osq
          generalize grow (redrawn v4 dq) osq = v5 at J ⊢
          replace S := keep J S
          replace T := keep J T
          replace F := keep J F
          replace LB := keep J LB
          replace BW := bw_trans BW J
          replace hs := hs.below J
          clear J uS0 uS1 uS2 uS3 uT0 uT1 uT2 uT3 uF0 uF1 uLB0 uLB1 uLB2 uLB3 uLB4 uLB5 uLB6 uLB7
          go_wp2_with fail
          rw [rounds_succ]
          go_upto_region 12 with fail
          obtain ⟨uS0, uS1, uS2, uS3⟩ := reg_4 S
          obtain ⟨uT0, uT1, uT2, uT3⟩ := reg_4 T
          obtain ⟨uF0, uF1⟩ := reg_2 F
          obtain ⟨uLB0, uLB1, uLB2, uLB3, uLB4, uLB5, uLB6, uLB7⟩ := reg_8 LB
          refine wp_region_quiet_below (by kernel_rfl) (by kernel_rfl) ?_
          repeat (first | go_big_quiet_step (first | (go_at_call 32; with_reducible exact Calls.regrown_of (C2.out _ (hs.below (below_regrown _ _ _))))))
          refine wpQuiet_nil ?_
          intro _ hw'
          obtain ⟨⟨dq, osq⟩, hw''⟩ := hw'
          subst hw''
          have J := below_regrown v5 dq osq
          generalize grow (redrawn v5 dq) osq = v6 at J ⊢
          replace S := keep J S
          replace T := keep J T
          replace F := keep J F
          replace LB := keep J LB
          replace BW := bw_trans BW J
          replace hs := hs.below J
          clear J uS0 uS1 uS2 uS3 uT0 uT1 uT2 uT3 uF0 uF1 uLB0 uLB1 uLB2 uLB3 uLB4 uLB5 uLB6 uLB7
          go_upto_region 14 with fail
          rcases three n2 nf d2 df with a2 | ⟨a2, b2⟩ | ⟨a2, b2⟩
          · skip
            obtain ⟨uS0, uS1, uS2, uS3⟩ := reg_4 S
            obtain ⟨uT0, uT1, uT2, uT3⟩ := reg_4 T
            obtain ⟨uF0, uF1⟩ := reg_2 F
            obtain ⟨uLB0, uLB1, uLB2, uLB3, uLB4, uLB5, uLB6, uLB7⟩ := reg_8 LB
            refine wp_region_quiet_below (by kernel_rfl) (by kernel_rfl) ?_
            repeat (first | go_big_quiet_step (first | (go_at_call 32; with_reducible exact Calls.regrown_of (C2.out _ (hs.below (below_regrown _ _ _))))))
            refine wpQuiet_nil ?_
            intro _ hw'
            obtain ⟨⟨dq, osq⟩, hw''⟩ := hw'
            subst hw''
            have J := below_regrown v6 dq osq
            generalize grow (redrawn v6 dq) osq = v7 at J ⊢
            replace S := keep J S
            replace T := keep J T
            replace F := keep J F
            replace LB := keep J LB
            replace BW := bw_trans BW J
            replace hs := hs.below J
            clear J uS0 uS1 uS2 uS3 uT0 uT1 uT2 uT3 uF0 uF1 uLB0 uLB1 uLB2 uLB3 uLB4 uLB5 uLB6 uLB7
            go_wp2_with fail
            rw [rounds_succ]
            go_upto_region 12 with fail
            obtain ⟨uS0, uS1, uS2, uS3⟩ := reg_4 S
            obtain ⟨uT0, uT1, uT2, uT3⟩ := reg_4 T
            obtain ⟨uF0, uF1⟩ := reg_2 F
            obtain ⟨uLB0, uLB1, uLB2, uLB3, uLB4, uLB5, uLB6, uLB7⟩ := reg_8 LB
            refine wp_region_quiet_below (by kernel_rfl) (by kernel_rfl) ?_
            repeat (first | go_big_quiet_step (first | (go_at_call 32; with_reducible exact Calls.regrown_of (C3.out _ (hs.below (below_regrown _ _ _))))))
            refine wpQuiet_nil ?_
            intro _ hw'
            obtain ⟨⟨dq, osq⟩, hw''⟩ := hw'
            subst hw''
            have J := below_regrown v7 dq osq
            generalize grow (redrawn v7 dq) osq = v8 at J ⊢
            replace S := keep J S
            replace T := keep J T
            replace F := keep J F
            replace LB := keep J LB
            replace BW := bw_trans BW J
            replace hs := hs.below J
            clear J uS0 uS1 uS2 uS3 uT0 uT1 uT2 uT3 uF0 uF1 uLB0 uLB1 uLB2 uLB3 uLB4 uLB5 uLB6 uLB7
            go_upto_region 14 with fail
            rcases three n3 nf d3 df with a3 | ⟨a3, b3⟩ | ⟨a3, b3⟩
            · skip
              obtain ⟨uS0, uS1, uS2, uS3⟩ := reg_4 S
              obtain ⟨uT0, uT1, uT2, uT3⟩ := reg_4 T
              obtain ⟨uF0, uF1⟩ := reg_2 F
              obtain ⟨uLB0, uLB1, uLB2, uLB3, uLB4, uLB5, uLB6, uLB7⟩ := reg_8 LB
              refine wp_region_quiet_below (by kernel_rfl) (by kernel_rfl) ?_
              repeat (first | go_big_quiet_step (first | (go_at_call 32; with_reducible exact Calls.regrown_of (C3.out _ (hs.below (below_regrown _ _ _))))))
              refine wpQuiet_nil ?_
              intro _ hw'
              obtain ⟨⟨dq, osq⟩, hw''⟩ := hw'
              subst hw''
              have J := below_regrown v8 dq osq
              generalize grow (redrawn v8 dq) osq = v9 at J ⊢
              replace S := keep J S
              replace T := keep J T
              replace F := keep J F
              replace LB := keep J LB
              replace BW := bw_trans BW J
              replace hs := hs.below J
              clear J uS0 uS1 uS2 uS3 uT0 uT1 uT2 uT3 uF0 uF1 uLB0 uLB1 uLB2 uLB3 uLB4 uLB5 uLB6 uLB7
              go_wp2_with fail
              rw [rounds_succ]
              have hm : mm = true := by
                rcases ONE.out with (h | h | h | h) | h
                · simp only [Prod.mk.injEq] at h; simp [h.2] at b0
                · simp only [Prod.mk.injEq] at h; simp [h.1] at a1
                · simp only [Prod.mk.injEq] at h; simp [h.1] at a2
                · simp only [Prod.mk.injEq] at h; simp [h.1] at a3
                · exact h
              rw [hm] at MM
              clear ONE hm
              have zS := blk_lt S
              obtain ⟨fS0, fS1, fS2, fS3⟩ := blk_4 S
              have zT := blk_lt T
              obtain ⟨fT0, fT1, fT2, fT3⟩ := blk_4 T
              have zF := blk_lt F
              obtain ⟨fF0, fF1⟩ := blk_2 F
              have zLB := blk_lt LB
              obtain ⟨fLB0, fLB1, fLB2, fLB3, fLB4, fLB5, fLB6, fLB7⟩ := blk_8 LB
              go_wp2_with fail
              refine (MM.out _).mono ?_
              rintro e v10 ⟨rfl, J⟩
              replace S := keep J S
              replace T := keep J T
              replace F := keep J F
              replace LB := keep J LB
              replace BW := bw_trans BW J
              replace hs := hs.below J
              clear J
              clear zS fS0 fS1 fS2 fS3 zT fT0 fT1 fT2 fT3 zF fF0 fF1 zLB fLB0 fLB1 fLB2 fLB3 fLB4 fLB5 fLB6 fLB7
              go_wp2_with fail
              go_ret
              exact ⟨rfl, BW⟩
            · skip
              obtain ⟨uS0, uS1, uS2, uS3⟩ := reg_4 S
              obtain ⟨uT0, uT1, uT2, uT3⟩ := reg_4 T
              obtain ⟨uF0, uF1⟩ := reg_2 F
              obtain ⟨uLB0, uLB1, uLB2, uLB3, uLB4, uLB5, uLB6, uLB7⟩ := reg_8 LB
              refine wp_region_quiet_below (by kernel_rfl) (by kernel_rfl) ?_
              repeat (first | go_big_quiet_step (first | (go_at_call 32; with_reducible exact Calls.regrown_of (C3.out _ (hs.below (below_regrown _ _ _))))))
              refine wpQuiet_nil ?_
              intro _ hw'
              obtain ⟨⟨dq, osq⟩, hw''⟩ := hw'
              subst hw''
              have J := below_regrown v8 dq osq
              generalize grow (redrawn v8 dq) osq = v9 at J ⊢
              replace S := keep J S
              replace T := keep J T
              replace F := keep J F
              replace LB := keep J LB
              replace BW := bw_trans BW J
              replace hs := hs.below J
              clear J uS0 uS1 uS2 uS3 uT0 uT1 uT2 uT3 uF0 uF1 uLB0 uLB1 uLB2 uLB3 uLB4 uLB5 uLB6 uLB7
              go_wp2_with fail
              rw [rounds_succ]
              have hm : mm = true := by
                rcases ONE.out with (h | h | h | h) | h
                · simp only [Prod.mk.injEq] at h; simp [h.2] at b0
                · simp only [Prod.mk.injEq] at h; simp [h.1] at a1
                · simp only [Prod.mk.injEq] at h; simp [h.1] at a2
                · simp only [Prod.mk.injEq] at h; simp [h.2] at b3
                · exact h
              rw [hm] at MM
              clear ONE hm
              have zS := blk_lt S
              obtain ⟨fS0, fS1, fS2, fS3⟩ := blk_4 S
              have zT := blk_lt T
              obtain ⟨fT0, fT1, fT2, fT3⟩ := blk_4 T
              have zF := blk_lt F
              obtain ⟨fF0, fF1⟩ := blk_2 F
              have zLB := blk_lt LB
              obtain ⟨fLB0, fLB1, fLB2, fLB3, fLB4, fLB5, fLB6, fLB7⟩ := blk_8 LB
              go_wp2_with fail
              refine (MM.out _).mono ?_
              rintro e v10 ⟨rfl, J⟩
              replace S := keep J S
              replace T := keep J T
              replace F := keep J F
              replace LB := keep J LB
              replace BW := bw_trans BW J
              replace hs := hs.below J
              clear J
              clear zS fS0 fS1 fS2 fS3 zT fT0 fT1 fT2 fT3 zF fF0 fF1 zLB fLB0 fLB1 fLB2 fLB3 fLB4 fLB5 fLB6 fLB7
              go_wp2_with fail
              go_ret
              exact ⟨rfl, BW⟩
            · skip
              obtain ⟨uS0, uS1, uS2, uS3⟩ := reg_4 S
              obtain ⟨uT0, uT1, uT2, uT3⟩ := reg_4 T
              obtain ⟨uF0, uF1⟩ := reg_2 F
              obtain ⟨uLB0, uLB1, uLB2, uLB3, uLB4, uLB5, uLB6, uLB7⟩ := reg_8 LB
              refine wp_region_quiet_below (by kernel_rfl) (by kernel_rfl) ?_
              repeat (first | go_big_quiet_step (first | (go_at_call 32; with_reducible exact Calls.regrown_of (C3.out _ (hs.below (below_regrown _ _ _))))))
              refine wpQuiet_nil ?_
              intro _ hw'
              obtain ⟨⟨dq, osq⟩, hw''⟩ := hw'
              subst hw''
              have J := below_regrown v8 dq osq
              generalize grow (redrawn v8 dq) osq = v9 at J ⊢
              replace S := keep J S
              replace T := keep J T
              replace F := keep J F
              replace LB := keep J LB
              replace BW := bw_trans BW J
              replace hs := hs.below J
              clear J uS0 uS1 uS2 uS3 uT0 uT1 uT2 uT3 uF0 uF1 uLB0 uLB1 uLB2 uLB3 uLB4 uLB5 uLB6 uLB7
              go_wp2_with fail
              rw [rounds_succ]
              go_wp2_with fail
              go_ret
              exact ⟨rfl, BW⟩
          · skip
            obtain ⟨uS0, uS1, uS2, uS3⟩ := reg_4 S
            obtain ⟨uT0, uT1, uT2, uT3⟩ := reg_4 T
            obtain ⟨uF0, uF1⟩ := reg_2 F
            obtain ⟨uLB0, uLB1, uLB2, uLB3, uLB4, uLB5, uLB6, uLB7⟩ := reg_8 LB
            refine wp_region_quiet_below (by kernel_rfl) (by kernel_rfl) ?_
            repeat (first | go_big_quiet_step (first | (go_at_call 32; with_reducible exact Calls.regrown_of (C2.out _ (hs.below (below_regrown _ _ _))))))
            refine wpQuiet_nil ?_
            intro _ hw'
            obtain ⟨⟨dq, osq⟩, hw''⟩ := hw'
            subst hw''
            have J := below_regrown v6 dq osq
            generalize grow (redrawn v6 dq) osq = v7 at J ⊢
            replace S := keep J S
            replace T := keep J T
            replace F := keep J F
            replace LB := keep J LB
            replace BW := bw_trans BW J
            replace hs := hs.below J
            clear J uS0 uS1 uS2 uS3 uT0 uT1 uT2 uT3 uF0 uF1 uLB0 uLB1 uLB2 uLB3 uLB4 uLB5 uLB6 uLB7
            go_wp2_with fail
            rw [rounds_succ]
            go_upto_region 12 with fail
            obtain ⟨uS0, uS1, uS2, uS3⟩ := reg_4 S
            obtain ⟨uT0, uT1, uT2, uT3⟩ := reg_4 T
            obtain ⟨uF0, uF1⟩ := reg_2 F
            obtain ⟨uLB0, uLB1, uLB2, uLB3, uLB4, uLB5, uLB6, uLB7⟩ := reg_8 LB
            refine wp_region_quiet_below (by kernel_rfl) (by kernel_rfl) ?_
            repeat (first | go_big_quiet_step (first | (go_at_call 32; with_reducible exact Calls.regrown_of (C3.out _ (hs.below (below_regrown _ _ _))))))
            refine wpQuiet_nil ?_
            intro _ hw'
            obtain ⟨⟨dq, osq⟩, hw''⟩ := hw'
            subst hw''
            have J := below_regrown v7 dq osq
            generalize grow (redrawn v7 dq) osq = v8 at J ⊢
            replace S := keep J S
            replace T := keep J T
            replace F := keep J F
            replace LB := keep J LB
            replace BW := bw_trans BW J
            replace hs := hs.below J
            clear J uS0 uS1 uS2 uS3 uT0 uT1 uT2 uT3 uF0 uF1 uLB0 uLB1 uLB2 uLB3 uLB4 uLB5 uLB6 uLB7
            go_upto_region 14 with fail
            rcases three n3 nf d3 df with a3 | ⟨a3, b3⟩ | ⟨a3, b3⟩
            · skip
              obtain ⟨uS0, uS1, uS2, uS3⟩ := reg_4 S
              obtain ⟨uT0, uT1, uT2, uT3⟩ := reg_4 T
              obtain ⟨uF0, uF1⟩ := reg_2 F
              obtain ⟨uLB0, uLB1, uLB2, uLB3, uLB4, uLB5, uLB6, uLB7⟩ := reg_8 LB
              refine wp_region_quiet_below (by kernel_rfl) (by kernel_rfl) ?_
              repeat (first | go_big_quiet_step (first | (go_at_call 32; with_reducible exact Calls.regrown_of (C3.out _ (hs.below (below_regrown _ _ _))))))
              refine wpQuiet_nil ?_
              intro _ hw'
              obtain ⟨⟨dq, osq⟩, hw''⟩ := hw'
              subst hw''
              have J := below_regrown v8 dq osq
              generalize grow (redrawn v8 dq) osq = v9 at J ⊢
              replace S := keep J S
              replace T := keep J T
              replace F := keep J F
              replace LB := keep J LB
              replace BW := bw_trans BW J
              replace hs := hs.below J
              clear J uS0 uS1 uS2 uS3 uT0 uT1 uT2 uT3 uF0 uF1 uLB0 uLB1 uLB2 uLB3 uLB4 uLB5 uLB6 uLB7
              go_wp2_with fail
              rw [rounds_succ]
              have hm : mm = true := by
                rcases ONE.out with (h | h | h | h) | h
                · simp only [Prod.mk.injEq] at h; simp [h.2] at b0
                · simp only [Prod.mk.injEq] at h; simp [h.1] at a1
                · simp only [Prod.mk.injEq] at h; simp [h.2] at b2
                · simp only [Prod.mk.injEq] at h; simp [h.1] at a3
                · exact h
              rw [hm] at MM
              clear ONE hm
              have zS := blk_lt S
              obtain ⟨fS0, fS1, fS2, fS3⟩ := blk_4 S
              have zT := blk_lt T
              obtain ⟨fT0, fT1, fT2, fT3⟩ := blk_4 T
              have zF := blk_lt F
              obtain ⟨fF0, fF1⟩ := blk_2 F
              have zLB := blk_lt LB
              obtain ⟨fLB0, fLB1, fLB2, fLB3, fLB4, fLB5, fLB6, fLB7⟩ := blk_8 LB
              go_wp2_with fail
              refine (MM.out _).mono ?_
              rintro e v10 ⟨rfl, J⟩
              replace S := keep J S
              replace T := keep J T
              replace F := keep J F
              replace LB := keep J LB
              replace BW := bw_trans BW J
              replace hs := hs.below J
              clear J
              clear zS fS0 fS1 fS2 fS3 zT fT0 fT1 fT2 fT3 zF fF0 fF1 zLB fLB0 fLB1 fLB2 fLB3 fLB4 fLB5 fLB6 fLB7
              go_wp2_with fail
              go_ret
              exact ⟨rfl, BW⟩
            · skip
              obtain ⟨uS0, uS1, uS2, uS3⟩ := reg_4 S
              obtain ⟨uT0, uT1, uT2, uT3⟩ := reg_4 T
              obtain ⟨uF0, uF1⟩ := reg_2 F
              obtain ⟨uLB0, uLB1, uLB2, uLB3, uLB4, uLB5, uLB6, uLB7⟩ := reg_8 LB
              refine wp_region_quiet_below (by kernel_rfl) (by kernel_rfl) ?_
              repeat (first | go_big_quiet_step (first | (go_at_call 32; with_reducible exact Calls.regrown_of (C3.out _ (hs.below (below_regrown _ _ _))))))
              refine wpQuiet_nil ?_
              intro _ hw'
              obtain ⟨⟨dq, osq⟩, hw''⟩ := hw'
              subst hw''
              have J := below_regrown v8 dq osq
              generalize grow (redrawn v8 dq) osq = v9 at J ⊢
              replace S := keep J S
              replace T := keep J T
              replace F := keep J F
              replace LB := keep J LB
              replace BW := bw_trans BW J
              replace hs := hs.below J
              clear J uS0 uS1 uS2 uS3 uT0 uT1 uT2 uT3 uF0 uF1 uLB0 uLB1 uLB2 uLB3 uLB4 uLB5 uLB6 uLB7
              go_wp2_with fail
              rw [rounds_succ]
              have hm : mm = true := by
                rcases ONE.out with (h | h | h | h) | h
                · simp only [Prod.mk.injEq] at h; simp [h.2] at b0
                · simp only [Prod.mk.injEq] at h; simp [h.1] at a1
                · simp only [Prod.mk.injEq] at h; simp [h.2] at b2
                · simp only [Prod.mk.injEq] at h; simp [h.2] at b3
                · exact h
              rw [hm] at MM
              clear ONE hm
              have zS := blk_lt S
              obtain ⟨fS0, fS1, fS2, fS3⟩ := blk_4 S
              have zT := blk_lt T
              obtain ⟨fT0, fT1, fT2, fT3⟩ := blk_4 T
              have zF := blk_lt F
              obtain ⟨fF0, fF1⟩ := blk_2 F
              have zLB := blk_lt LB
              obtain ⟨fLB0, fLB1, fLB2, fLB3, fLB4, fLB5, fLB6, fLB7⟩ := blk_8 LB
              go_wp2_with fail
              refine (MM.out _).mono ?_
              rintro e v10 ⟨rfl, J⟩
              replace S := keep J S
              replace T := keep J T
              replace F := keep J F
              replace LB := keep J LB
              replace BW := bw_trans BW J
              replace hs := hs.below J
              clear J
              clear zS fS0 fS1 fS2 fS3 zT fT0 fT1 fT2 fT3 zF fF0 fF1 zLB fLB0 fLB1 fLB2 fLB3 fLB4 fLB5 fLB6 fLB7
              go_wp2_with fail
              go_ret
              exact ⟨rfl, BW⟩
            · skip
              obtain ⟨uS0, uS1, uS2, uS3⟩ := reg_4 S
              obtain ⟨uT0, uT1, uT2, uT3⟩ := reg_4 T
              obtain ⟨uF0, uF1⟩ := reg_2 F
              obtain ⟨uLB0, uLB1, uLB2, uLB3, uLB4, uLB5, uLB6, uLB7⟩ := reg_8 LB
              refine wp_region_quiet_below (by kernel_rfl) (by kernel_rfl) ?_
              repeat (first | go_big_quiet_step (first | (go_at_call 32; with_reducible exact Calls.regrown_of (C3.out _ (hs.below (below_regrown _ _ _))))))
              refine wpQuiet_nil ?_
              intro _ hw'
              obtain ⟨⟨dq, osq⟩, hw''⟩ := hw'
              subst hw''
              have J := below_regrown v8 dq osq
              generalize grow (redrawn v8 dq) osq = v9 at J ⊢
              replace S := keep J S
              replace T := keep J T
              replace F := keep J F
              replace LB := keep J LB
              replace BW := bw_trans BW J
              replace hs := hs.below J
              clear J uS0 uS1 uS2 uS3 uT0 uT1 uT2 uT3 uF0 uF1 uLB0 uLB1 uLB2 uLB3 uLB4 uLB5 uLB6 uLB7
              go_wp2_with fail
              rw [rounds_succ]
              go_wp2_with fail
              go_ret
              exact ⟨rfl, BW⟩
          · skip
            obtain ⟨uS0, uS1, uS2, uS3⟩ := reg_4 S
            obtain ⟨uT0, uT1, uT2, uT3⟩ := reg_4 T
            obtain ⟨uF0, uF1⟩ := reg_2 F
            obtain ⟨uLB0, uLB1, uLB2, uLB3, uLB4, uLB5, uLB6, uLB7⟩ := reg_8 LB
            refine wp_region_quiet_below (by kernel_rfl) (by kernel_rfl) ?_
            repeat (first | go_big_quiet_step (first | (go_at_call 32; with_reducible exact Calls.regrown_of (C2.out _ (hs.below (below_regrown _ _ _))))))
            refine wpQuiet_nil ?_
            intro _ hw'
            obtain ⟨⟨dq, osq⟩, hw''⟩ := hw'
            subst hw''
            have J := below_regrown v6 dq osq
            generalize grow (redrawn v6 dq) osq = v7 at J ⊢
            replace S := keep J S
            replace T := keep J T
            replace F := keep J F
            replace LB := keep J LB
            replace BW := bw_trans BW J
            replace hs := hs.below J
            clear J uS0 uS1 uS2 uS3 uT0 uT1 uT2 uT3 uF0 uF1 uLB0 uLB1 uLB2 uLB3 uLB4 uLB5 uLB6 uLB7
            go_wp2_with fail
            rw [rounds_succ]
            go_upto_region 12 with fail
            obtain ⟨uS0, uS1, uS2, uS3⟩ := reg_4 S
            obtain ⟨uT0, uT1, uT2, uT3⟩ := reg_4 T
            obtain ⟨uF0, uF1⟩ := reg_2 F
            obtain ⟨uLB0, uLB1, uLB2, uLB3, uLB4, uLB5, uLB6, uLB7⟩ := reg_8 LB
            refine wp_region_quiet_below (by kernel_rfl) (by kernel_rfl) ?_
            repeat (first | go_big_quiet_step (first | (go_at_call 32; with_reducible exact Calls.regrown_of (C3.out _ (hs.below (below_regrown _ _ _))))))
            refine wpQuiet_nil ?_
            intro _ hw'
            obtain ⟨⟨dq, osq⟩, hw''⟩ := hw'
            subst hw''
            have J := below_regrown v7 dq osq
            generalize grow (redrawn v7 dq) osq = v8 at J ⊢
            replace S := keep J S
            replace T := keep J T
            replace F := keep J F
            replace LB := keep J LB
            replace BW := bw_trans BW J
            replace hs := hs.below J
            clear J uS0 uS1 uS2 uS3 uT0 uT1 uT2 uT3 uF0 uF1 uLB0 uLB1 uLB2 uLB3 uLB4 uLB5 uLB6 uLB7
            go_upto_region 14 with fail
            obtain ⟨uS0, uS1, uS2, uS3⟩ := reg_4 S
            obtain ⟨uT0, uT1, uT2, uT3⟩ := reg_4 T
            obtain ⟨uF0, uF1⟩ := reg_2 F
            obtain ⟨uLB0, uLB1, uLB2, uLB3, uLB4, uLB5, uLB6, uLB7⟩ := reg_8 LB
            refine wp_region_quiet_below (by kernel_rfl) (by kernel_rfl) ?_
            repeat (first | go_big_quiet_step (first | (go_at_call 32; with_reducible exact Calls.regrown_of (C3.out _ (hs.below (below_regrown _ _ _))))))
            refine wpQuiet_nil ?_
            intro _ hw'
            obtain ⟨⟨dq, osq⟩, hw''⟩ := hw'
            subst hw''
            have J := below_regrown v8 dq osq
            generalize grow (redrawn v8 dq) osq = v9 at J ⊢
            replace S := keep J S
            replace T := keep J T
            replace F := keep J F
            replace LB := keep J LB
            replace BW := bw_trans BW J
            replace hs := hs.below J
            clear J uS0 uS1 uS2 uS3 uT0 uT1 uT2 uT3 uF0 uF1 uLB0 uLB1 uLB2 uLB3 uLB4 uLB5 uLB6 uLB7
            go_wp2_with fail
            rw [rounds_succ]
            go_wp2_with fail
            go_ret
            exact ⟨rfl, BW⟩
        · skip
          obtain ⟨uS0, uS1, uS2, uS3⟩ := reg_4 S
          obtain ⟨uT0, uT1, uT2, uT3⟩ := reg_4 T
          obtain ⟨uF0, uF1⟩ := reg_2 F
          obtain ⟨uLB0, uLB1, uLB2, uLB3, uLB4, uLB5, uLB6, uLB7⟩ := reg_8 LB
          refine wp_region_quiet_below (by kernel_rfl) (by kernel_rfl) ?_
          repeat (first | go_big_quiet_step (first | (go_at_call 32; with_reducible exact Calls.regrown_of (C1.out _ (hs.below (below_regrown _ _ _))))))
          refine wpQuiet_nil ?_
          intro _ hw'
          obtain ⟨⟨dq, osq⟩, hw''⟩ := hw'
          subst hw''
          have J := below_regrown v4 dq osq
          generalize grow (redrawn v4 dq) osq = v5 at J ⊢
          replace S := keep J S
          replace T := keep J T
          replace F := keep J F
          replace LB := keep J LB
          replace BW := bw_trans BW J
          replace hs := hs.below J
          clear J uS0 uS1 uS2 uS3 uT0 uT1 uT2 uT3 uF0 uF1 uLB0 uLB1 uLB2 uLB3 uLB4 uLB5 uLB6 uLB7
          go_wp2_with fail
          rw [rounds_succ]
          go_upto_region 12 with fail
          obtain ⟨uS0, uS1, uS2, uS3⟩ := reg_4 S
          obtain ⟨uT0, uT1, uT2, uT3⟩ := reg_4 T
          obtain ⟨uF0, uF1⟩ := reg_2 F
          obtain ⟨uLB0, uLB1, uLB2, uLB3, uLB4, uLB5, uLB6, uLB7⟩ := reg_8 LB
          refine wp_region_quiet_below (by kernel_rfl) (by kernel_rfl) ?_
          repeat (first | go_big_quiet_step (first | (go_at_call 32; with_reducible exact Calls.regrown_of (C2.out _ (hs.below (below_regrown _ _ _))))))
          refine wpQuiet_nil ?_
          intro _ hw'
          obtain ⟨⟨dq, osq⟩, hw''⟩ := hw'
          subst hw''
          have J := below_regrown v5 dq osq
          generalize grow (redrawn v5 dq) osq = v6 at J ⊢
          replace S := keep J S
          replace T := keep J T
          replace F := keep J F
          replace LB := keep J LB
          replace BW := bw_trans BW J
          replace hs := hs.below J
          clear J uS0 uS1 uS2 uS3 uT0 uT1 uT2 uT3 uF0 uF1 uLB0 uLB1 uLB2 uLB3 uLB4 uLB5 uLB6 uLB7
          go_upto_region 14 with fail
          rcases three n2 nf d2 df with a2 | ⟨a2, b2⟩ | ⟨a2, b2⟩
          · skip
            obtain ⟨uS0, uS1, uS2, uS3⟩ := reg_4 S
            obtain ⟨uT0, uT1, uT2, uT3⟩ := reg_4 T
            obtain ⟨uF0, uF1⟩ := reg_2 F
            obtain ⟨uLB0, uLB1, uLB2, uLB3, uLB4, uLB5, uLB6, uLB7⟩ := reg_8 LB
            refine wp_region_quiet_below (by kernel_rfl) (by kernel_rfl) ?_
            repeat (first | go_big_quiet_step (first | (go_at_call 32; with_reducible exact Calls.regrown_of (C2.out _ (hs.below (below_regrown _ _ _))))))
            refine wpQuiet_nil ?_
            intro _ hw'
            obtain ⟨⟨dq, osq⟩, hw''⟩ := hw'
            subst hw''
            have J := below_regrown v6 dq osq
            generalize grow (redrawn v6 dq) osq = v7 at J ⊢
            replace S := keep J S
            replace T := keep J T
            replace F := keep J F
            replace LB := keep J LB
            replace BW := bw_trans BW J
            replace hs := hs.below J
            clear J uS0 uS1 uS2 uS3 uT0 uT1 uT2 uT3 uF0 uF1 uLB0 uLB1 uLB2 uLB3 uLB4 uLB5 uLB6 uLB7
            go_wp2_with fail
            rw [rounds_succ]
            go_upto_region 12 with fail
            obtain ⟨uS0, uS1, uS2, uS3⟩ := reg_4 S
            obtain ⟨uT0, uT1, uT2, uT3⟩ := reg_4 T
            obtain ⟨uF0, uF1⟩ := reg_2 F
            obtain ⟨uLB0, uLB1, uLB2, uLB3, uLB4, uLB5, uLB6, uLB7⟩ := reg_8 LB
            refine wp_region_quiet_below (by kernel_rfl) (by kernel_rfl) ?_
            repeat (first | go_big_quiet_step (first | (go_at_call 32; with_reducible exact Calls.regrown_of (C3.out _ (hs.below (below_regrown _ _ _))))))
            refine wpQuiet_nil ?_
            intro _ hw'
            obtain ⟨⟨dq, osq⟩, hw''⟩ := hw'
            subst hw''
            have J := below_regrown v7 dq osq
            generalize grow (redrawn v7 dq) osq = v8 at J ⊢
            replace S := keep J S
            replace T := keep J T
            replace F := keep J F
            replace LB := keep J LB
            replace BW := bw_trans BW J
            replace hs := hs.below J
            clear J uS0 uS1 uS2 uS3 uT0 uT1 uT2 uT3 uF0 uF1 uLB0 uLB1 uLB2 uLB3 uLB4 uLB5 uLB6 uLB7
            go_upto_region 14 with fail
            rcases three n3 nf d3 df with a3 | ⟨a3, b3⟩ | ⟨a3, b3⟩
            · skip
              obtain ⟨uS0, uS1, uS2, uS3⟩ := reg_4 S
              obtain ⟨uT0, uT1, uT2, uT3⟩ := reg_4 T
              obtain ⟨uF0, uF1⟩ := reg_2 F
              obtain ⟨uLB0, uLB1, uLB2, uLB3, uLB4, uLB5, uLB6, uLB7⟩ := reg_8 LB
              refine wp_region_quiet_below (by kernel_rfl) (by kernel_rfl) ?_
              repeat (first | go_big_quiet_step (first | (go_at_call 32; with_reducible exact Calls.regrown_of (C3.out _ (hs.below (below_regrown _ _ _))))))
              refine wpQuiet_nil ?_
              intro _ hw'
              obtain ⟨⟨dq, osq⟩, hw''⟩ := hw'
              subst hw''
              have J := below_regrown v8 dq osq
              generalize grow (redrawn v8 dq) osq = v9 at J ⊢
              replace S := keep J S
              replace T := keep J T
              replace F := keep J F
              replace LB := keep J LB
              replace BW := bw_trans BW J
              replace hs := hs.below J
              clear J uS0 uS1 uS2 uS3 uT0 uT1 uT2 uT3 uF0 uF1 uLB0 uLB1 uLB2 uLB3 uLB4 uLB5 uLB6 uLB7
              go_wp2_with fail
              rw [rounds_succ]
              have hm : mm = true := by
                rcases ONE.out with (h | h | h | h) | h
                · simp only [Prod.mk.injEq] at h; simp [h.2] at b0
                · simp only [Prod.mk.injEq] at h; simp [h.2] at b1
                · simp only [Prod.mk.injEq] at h; simp [h.1] at a2
                · simp only [Prod.mk.injEq] at h; simp [h.1] at a3
                · exact h
              rw [hm] at MM
              clear ONE hm
              have zS := blk_lt S
              obtain ⟨fS0, fS1, fS2, fS3⟩ := blk_4 S
              have zT := blk_lt T
              obtain ⟨fT0, fT1, fT2, fT3⟩ := blk_4 T
              have zF := blk_lt F
              obtain ⟨fF0, fF1⟩ := blk_2 F
              have zLB := blk_lt LB
              obtain ⟨fLB0, fLB1, fLB2, fLB3, fLB4, fLB5, fLB6, fLB7⟩ := blk_8 LB
              go_wp2_with fail
              refine (MM.out _).mono ?_
              rintro e v10 ⟨rfl, J⟩
              replace S := keep J S
              replace T := keep J T
              replace F := keep J F
              replace LB := keep J LB
              replace BW := bw_trans BW J
              replace hs := hs.below J
              clear J
              clear zS fS0 fS1 fS2 fS3 zT fT0 fT1 fT2 fT3 zF fF0 fF1 zLB fLB0 fLB1 fLB2 fLB3 fLB4 fLB5 fLB6 fLB7
              go_wp2_with fail
              go_ret
              exact ⟨rfl, BW⟩
            · skip
              obtain ⟨uS0, uS1, uS2, uS3⟩ := reg_4 S
              obtain ⟨uT0, uT1, uT2, uT3⟩ := reg_4 T
              obtain ⟨uF0, uF1⟩ := reg_2 F
              obtain ⟨uLB0, uLB1, uLB2, uLB3, uLB4, uLB5, uLB6, uLB7⟩ := reg_8 LB
              refine wp_region_quiet_below (by kernel_rfl) (by kernel_rfl) ?_
              repeat (first | go_big_quiet_step (first | (go_at_call 32; with_reducible exact Calls.regrown_of (C3.out _ (hs.below (below_regrown _ _ _))))))
              refine wpQuiet_nil ?_
              intro _ hw'
              obtain ⟨⟨dq, osq⟩, hw''⟩ := hw'
              subst hw''
              have J := below_regrown v8 dq osq
              generalize grow (redrawn v8 dq) osq = v9 at J ⊢
              replace S := keep J S
              replace T := keep J T
              replace F := keep J F
              replace LB := keep J LB
              replace BW := bw_trans BW J
              replace hs := hs.below J
              clear J uS0 uS1 uS2 uS3 uT0 uT1 uT2 uT3 uF0 uF1 uLB0 uLB1 uLB2 uLB3 uLB4 uLB5 uLB6 uLB7
              go_wp2_with fail
              rw [rounds_succ]
              have hm : mm = true := by
                rcases ONE.out with (h | h | h | h) | h
                · simp only [Prod.mk.injEq] at h; simp [h.2] at b0
                · simp only [Prod.mk.injEq] at h; simp [h.2] at b1
                · simp only [Prod.mk.injEq] at h; simp [h.1] at a2
                · simp only [Prod.mk.injEq] at h; simp [h.2] at b3
                · exact h
              rw [hm] at MM
              clear ONE hm
              have zS := blk_lt S
              obtain ⟨fS0, fS1, fS2, fS3⟩ := blk_4 S
              have zT := blk_lt T
              obtain ⟨fT0, fT1, fT2, fT3⟩ := blk_4 T
              have zF := blk_lt F
              obtain ⟨fF0, fF1⟩ := blk_2 F
              have zLB := blk_lt LB
              obtain ⟨fLB0, fLB1, fLB2, fLB3, fLB4, fLB5, fLB6, fLB7⟩ := blk_8 LB
              go_wp2_with fail
              refine (MM.out _).mono ?_
              rintro e v10 ⟨rfl, J⟩
              replace S := keep J S
              replace T := keep J T
              replace F := keep J F
              replace LB := keep J LB
              replace BW := bw_trans BW J
              replace hs := hs.below J
              clear J
              clear zS fS0 fS1 fS2 fS3 zT fT0 fT1 fT2 fT3 zF fF0 fF1 zLB fLB0 fLB1 fLB2 fLB3 fLB4 fLB5 fLB6 fLB7
              go_wp2_with fail
              go_ret
              exact ⟨rfl, BW⟩
            · skip
              obtain ⟨uS0, uS1, uS2, uS3⟩ := reg_4 S
              obtain ⟨uT0, uT1, uT2, uT3⟩ := reg_4 T
              obtain ⟨uF0, uF1⟩ := reg_2 F
              obtain ⟨uLB0, uLB1, uLB2, uLB3, uLB4, uLB5, uLB6, uLB7⟩ := reg_8 LB
              refine wp_region_quiet_below (by kernel_rfl) (by kernel_rfl) ?_
              repeat (first | go_big_quiet_step (first | (go_at_call 32; with_reducible exact Calls.regrown_of (C3.out _ (hs.below (below_regrown _ _ _))))))
              refine wpQuiet_nil ?_
              intro _ hw'
              obtain ⟨⟨dq, osq⟩, hw''⟩ := hw'
              subst hw''
              have J := below_regrown v8 dq osq
              generalize grow (redrawn v8 dq) osq = v9 at J ⊢
              replace S := keep J S
              replace T := keep J T
              replace F := keep J F
              replace LB := keep J LB
              replace BW := bw_trans BW J
              replace hs := hs.below J
              clear J uS0 uS1 uS2 uS3 uT0 uT1 uT2 uT3 uF0 uF1 uLB0 uLB1 uLB2 uLB3 uLB4 uLB5 uLB6 uLB7
              go_wp2_with fail
              rw [rounds_succ]
              go_wp2_with fail
              go_ret
              exact ⟨rfl, BW⟩
          · skip
            obtain ⟨uS0, uS1, uS2, uS3⟩ := reg_4 S
            obtain ⟨uT0, uT1, uT2, uT3⟩ := reg_4 T
            obtain ⟨uF0, uF1⟩ := reg_2 F
            obtain ⟨uLB0, uLB1, uLB2, uLB3, uLB4, uLB5, uLB6, uLB7⟩ := reg_8 LB
            refine wp_region_quiet_below (by kernel_rfl) (by kernel_rfl) ?_
            repeat (first | go_big_quiet_step (first | (go_at_call 32; with_reducible exact Calls.regrown_of (C2.out _ (hs.below (below_regrown _ _ _))))))
            refine wpQuiet_nil ?_
            intro _ hw'
            obtain ⟨⟨dq, osq⟩, hw''⟩ := hw'
            subst hw''
            have J := below_regrown v6 dq osq
            generalize grow (redrawn v6 dq) osq = v7 at J ⊢
            replace S := keep J S
            replace T := keep J T
            replace F := keep J F
            replace LB := keep J LB
            replace BW := bw_trans BW J
            replace hs := hs.below J
            clear J uS0 uS1 uS2 uS3 uT0 uT1 uT2 uT3 uF0 uF1 uLB0 uLB1 uLB2 uLB3 uLB4 uLB5 uLB6 uLB7
            go_wp2_with fail
            rw [rounds_succ]
            go_upto_region 12 with fail
            obtain ⟨uS0, uS1, uS2, uS3⟩ := reg_4 S
            obtain ⟨uT0, uT1, uT2, uT3⟩ := reg_4 T
            obtain ⟨uF0, uF1⟩ := reg_2 F
            obtain ⟨uLB0, uLB1, uLB2, uLB3, uLB4, uLB5, uLB6, uLB7⟩ := reg_8 LB
            refine wp_region_quiet_below (by kernel_rfl) (by kernel_rfl) ?_
            repeat (first | go_big_quiet_step (first | (go_at_call 32; with_reducible exact Calls.regrown_of (C3.out _ (hs.below (below_regrown _ _ _))))))
            refine wpQuiet_nil ?_
            intro _ hw'
            obtain ⟨⟨dq, osq⟩, hw''⟩ := hw'
            subst hw''
            have J := below_regrown v7 dq osq
            generalize grow (redrawn v7 dq) osq = v8 at J ⊢
            replace S := keep J S
            replace T := keep J T
            replace F := keep J F
            replace LB := keep J LB
            replace BW := bw_trans BW J
            replace hs := hs.below J
            clear J uS0 uS1 uS2 uS3 uT0 uT1 uT2 uT3 uF0 uF1 uLB0 uLB1 uLB2 uLB3 uLB4 uLB5 uLB6 uLB7
            go_upto_region 14 with fail
            rcases three n3 nf d3 df with a3 | ⟨a3, b3⟩ | ⟨a3, b3⟩
            · skip
              obtain ⟨uS0, uS1, uS2, uS3⟩ := reg_4 S
              obtain ⟨uT0, uT1, uT2, uT3⟩ := reg_4 T
              obtain ⟨uF0, uF1⟩ := reg_2 F
              obtain ⟨uLB0, uLB1, uLB2, uLB3, uLB4, uLB5, uLB6, uLB7⟩ := reg_8 LB
              refine wp_region_quiet_below (by kernel_rfl) (by kernel_rfl) ?_
              repeat (first | go_big_quiet_step (first | (go_at_call 32; with_reducible exact Calls.regrown_of (C3.out _ (hs.below (below_regrown _ _ _))))))
              refine wpQuiet_nil ?_
              intro _ hw'
              obtain ⟨⟨dq, osq⟩, hw''⟩ := hw'
              subst hw''
              have J := below_regrown v8 dq osq
              generalize grow (redrawn v8 dq) osq = v9 at J ⊢
              replace S := keep J S
              replace T := keep J T
              replace F := keep J F
              replace LB := keep J LB
              replace BW := bw_trans BW J
              replace hs := hs.below J
              clear J uS0 uS1 uS2 uS3 uT0 uT1 uT2 uT3 uF0 uF1 uLB0 uLB1 uLB2 uLB3 uLB4 uLB5 uLB6 uLB7
              go_wp2_with fail
              rw [rounds_succ]
              have hm : mm = true := by
                rcases ONE.out with (h | h | h | h) | h
                · simp only [Prod.mk.injEq] at h; simp [h.2] at b0
                · simp only [Prod.mk.injEq] at h; simp [h.2] at b1
                · simp only [Prod.mk.injEq] at h; simp [h.2] at b2
                · simp only [Prod.mk.injEq] at h; simp [h.1] at a3
                · exact h
              rw [hm] at MM
              clear ONE hm
              have zS := blk_lt S
              obtain ⟨fS0, fS1, fS2, fS3⟩ := blk_4 S
              have zT := blk_lt T
              obtain ⟨fT0, fT1, fT2, fT3⟩ := blk_4 T
              have zF := blk_lt F
              obtain ⟨fF0, fF1⟩ := blk_2 F
              have zLB := blk_lt LB
              obtain ⟨fLB0, fLB1, fLB2, fLB3, fLB4, fLB5, fLB6, fLB7⟩ := blk_8 LB
              go_wp2_with fail
              refine (MM.out _).mono ?_
              rintro e v10 ⟨rfl, J⟩
              replace S := keep J S
              replace T := keep J T
              replace F := keep J F
              replace LB := keep J LB
              replace BW := bw_trans BW J
              replace hs := hs.below J
              clear J
              clear zS fS0 fS1 fS2 fS3 zT fT0 fT1 fT2 fT3 zF fF0 fF1 zLB fLB0 fLB1 fLB2 fLB3 fLB4 fLB5 fLB6 fLB7
              go_wp2_with fail
              go_ret
              exact ⟨rfl, BW⟩
            · skip
              obtain ⟨uS0, uS1, uS2, uS3⟩ := reg_4 S
              obtain ⟨uT0, uT1, uT2, uT3⟩ := reg_4 T
              obtain ⟨uF0, uF1⟩ := reg_2 F
              obtain ⟨uLB0, uLB1, uLB2, uLB3, uLB4, uLB5, uLB6, uLB7⟩ := reg_8 LB
              refine wp_region_quiet_below (by kernel_rfl) (by kernel_rfl) ?_
              repeat (first | go_big_quiet_step (first | (go_at_call 32; with_reducible exact Calls.regrown_of (C3.out _ (hs.below (below_regrown _ _ _))))))
              refine wpQuiet_nil ?_
              intro _ hw'
              obtain ⟨⟨dq, osq⟩, hw''⟩ := hw'
              subst hw''
              have J := below_regrown v8 dq osq
              generalize grow (redrawn v8 dq) osq = v9 at J ⊢
              replace S := keep J S
              replace T := keep J T
              replace F := keep J F
              replace LB := keep J LB
              replace BW := bw_trans BW J
              replace hs := hs.below J
              clear J uS0 uS1 uS2 uS3 uT0 uT1 uT2 uT3 uF0 uF1 uLB0 uLB1 uLB2 uLB3 uLB4 uLB5 uLB6 uLB7
              go_wp2_with fail
              rw [rounds_succ]
              have hm : mm = true := by
                rcases ONE.out with (h | h | h | h) | h
                · simp only [Prod.mk.injEq] at h; simp [h.2] at b0
                · simp only [Prod.mk.injEq] at h; simp [h.2] at b1
                · simp only [Prod.mk.injEq] at h; simp [h.2] at b2
                · simp only [Prod.mk.injEq] at h; simp [h.2] at b3
                · exact h
              rw [hm] at MM
              clear ONE hm
              have zS := blk_lt S
              obtain ⟨fS0, fS1, fS2, fS3⟩ := blk_4 S
              have zT := blk_lt T
              obtain ⟨fT0, fT1, fT2, fT3⟩ := blk_4 T
              have zF := blk_lt F
              obtain ⟨fF0, fF1⟩ := blk_2 F
              have zLB := blk_lt LB
              obtain ⟨fLB0, fLB1, fLB2, fLB3, fLB4, fLB5, fLB6, fLB7⟩ := blk_8 LB
              go_wp2_with fail
              refine (MM.out _).mono ?_
              rintro e v10 ⟨rfl, J⟩
              replace S := keep J S
              replace T := keep J T
              replace F := keep J F
              replace LB := keep J LB
              replace BW := bw_trans BW J
              replace hs := hs.below J
              clear J
              clear zS fS0 fS1 fS2 fS3 zT fT0 fT1 fT2 fT3 zF fF0 fF1 zLB fLB0 fLB1 fLB2 fLB3 fLB4 fLB5 fLB6 fLB7
              go_wp2_with fail
              go_ret
              exact ⟨rfl, BW⟩
            · skip
              obtain ⟨uS0, uS1, uS2, uS3⟩ := reg_4 S
              obtain ⟨uT0, uT1, uT2, uT3⟩ := reg_4 T
              obtain ⟨uF0, uF1⟩ := reg_2 F
              obtain ⟨uLB0, uLB1, uLB2, uLB3, uLB4, uLB5, uLB6, uLB7⟩ := reg_8 LB
              refine wp_region_quiet_below (by kernel_rfl) (by kernel_rfl) ?_
              repeat (first | go_big_quiet_step (first | (go_at_call 32; with_reducible exact Calls.regrown_of (C3.out _ (hs.below (below_regrown _ _ _))))))
              refine wpQuiet_nil ?_
              intro _ hw'
              obtain ⟨⟨dq, osq⟩, hw''⟩ := hw'
              subst hw''
              have J := below_regrown v8 dq osq
              generalize grow (redrawn v8 dq) osq = v9 at J ⊢
              replace S := keep J S
              replace T := keep J T
              replace F := keep J F
              replace LB := keep J LB
              replace BW := bw_trans BW J
              replace hs := hs.below J
              clear J uS0 uS1 uS2 uS3 uT0 uT1 uT2 uT3 uF0 uF1 uLB0 uLB1 uLB2 uLB3 uLB4 uLB5 uLB6 uLB7
              go_wp2_with fail
              rw [rounds_succ]
              go_wp2_with fail
              go_ret
              exact ⟨rfl, BW⟩
          · skip
            obtain ⟨uS0, uS1, uS2, uS3⟩ := reg_4 S
            obtain ⟨uT0, uT1, uT2, uT3⟩ := reg_4 T
            obtain ⟨uF0, uF1⟩ := reg_2 F
            obtain ⟨uLB0, uLB1, uLB2, uLB3, uLB4, uLB5, uLB6, uLB7⟩ := reg_8 LB
            refine wp_region_quiet_below (by kernel_rfl) (by kernel_rfl) ?_
            repeat (first | go_big_quiet_step (first | (go_at_call 32; with_reducible exact Calls.regrown_of (C2.out _ (hs.below (below_regrown _ _ _))))))
            refine wpQuiet_nil ?_
            intro _ hw'
            obtain ⟨⟨dq, osq⟩, hw''⟩ := hw'
            subst hw''
            have J := below_regrown v6 dq osq
            generalize grow (redrawn v6 dq) osq = v7 at J ⊢
            replace S := keep J S
            replace T := keep J T
            replace F := keep J F
            replace LB := keep J LB
            replace BW := bw_trans BW J
            replace hs := hs.below J
            clear J uS0 uS1 uS2 uS3 uT0 uT1 uT2 uT3 uF0 uF1 uLB0 uLB1 uLB2 uLB3 uLB4 uLB5 uLB6 uLB7
            go_wp2_with fail
            rw [rounds_succ]
            go_upto_region 12 with fail
            obtain ⟨uS0, uS1, uS2, uS3⟩ := reg_4 S
            obtain ⟨uT0, uT1, uT2, uT3⟩ := reg_4 T
            obtain ⟨uF0, uF1⟩ := reg_2 F
            obtain ⟨uLB0, uLB1, uLB2, uLB3, uLB4, uLB5, uLB6, uLB7⟩ := reg_8 LB
            refine wp_region_quiet_below (by kernel_rfl) (by kernel_rfl) ?_
            repeat (first | go_big_quiet_step (first | (go_at_call 32; with_reducible exact Calls.regrown_of (C3.out _ (hs.below (below_regrown _ _ _))))))
            refine wpQuiet_nil ?_
            intro _ hw'
            obtain ⟨⟨dq, osq⟩, hw''⟩ := hw'
            subst hw''
            have J := below_regrown v7 dq osq
            generalize grow (redrawn v7 dq) osq = v8 at J ⊢
            replace S := keep J S
            replace T := keep J T
            replace F := keep J F
            replace LB := keep J LB
            replace BW := bw_trans BW J
            replace hs := hs.below J
            clear J uS0 uS1 uS2 uS3 uT0 uT1 uT2 uT3 uF0 uF1 uLB0 uLB1 uLB2 uLB3 uLB4 uLB5 uLB6 uLB7
            go_upto_region 14 with fail
            obtain ⟨uS0, uS1, uS2, uS3⟩ := reg_4 S
            obtain ⟨uT0, uT1, uT2, uT3⟩ := reg_4 T
            obtain ⟨uF0, uF1⟩ := reg_2 F
            obtain ⟨uLB0, uLB1, uLB2, uLB3, uLB4, uLB5, uLB6, uLB7⟩ := reg_8 LB
            refine wp_region_quiet_below (by kernel_rfl) (by kernel_rfl) ?_
            repeat (first | go_big_quiet_step (first | (go_at_call 32; with_reducible exact Calls.regrown_of (C3.out _ (hs.below (below_regrown _ _ _))))))
            refine wpQuiet_nil ?_
            intro _ hw'
            obtain ⟨⟨dq, osq⟩, hw''⟩ := hw'
            subst hw''
            have J := below_regrown v8 dq osq
            generalize grow (redrawn v8 dq) osq = v9 at J ⊢
            replace S := keep J S
            replace T := keep J T
            replace F := keep J F
            replace LB := keep J LB
            replace BW := bw_trans BW J
            replace hs := hs.below J
            clear J uS0 uS1 uS2 uS3 uT0 uT1 uT2 uT3 uF0 uF1 uLB0 uLB1 uLB2 uLB3 uLB4 uLB5 uLB6 uLB7
            go_wp2_with fail
            rw [rounds_succ]
            go_wp2_with fail
            go_ret
            exact ⟨rfl, BW⟩
        · skip
          obtain ⟨uS0, uS1, uS2, uS3⟩ := reg_4 S
          obtain ⟨uT0, uT1, uT2, uT3⟩ := reg_4 T
          obtain ⟨uF0, uF1⟩ := reg_2 F
          obtain ⟨uLB0, uLB1, uLB2, uLB3, uLB4, uLB5, uLB6, uLB7⟩ := reg_8 LB
          refine wp_region_quiet_below (by kernel_rfl) (by kernel_rfl) ?_
          repeat (first | go_big_quiet_step (first | (go_at_call 32; with_reducible exact Calls.regrown_of (C1.out _ (hs.below (below_regrown _ _ _))))))
          refine wpQuiet_nil ?_
          intro _ hw'
          obtain ⟨⟨dq, osq⟩, hw''⟩ := hw'
          subst hw''
          have J := below_regrown v4 dq osq
          generalize grow (redrawn v4 dq) osq = v5 at J ⊢
          replace S := keep J S
          replace T := keep J T
          replace F := keep J F
          replace LB := keep J LB
          replace BW := bw_trans BW J
          replace hs := hs.below J
          clear J uS0 uS1 uS2 uS3 uT0 uT1 uT2 uT3 uF0 uF1 uLB0 uLB1 uLB2 uLB3 uLB4 uLB5 uLB6 uLB7
          go_wp2_with fail
          rw [rounds_succ]
          go_upto_region 12 with fail
          obtain ⟨uS0, uS1, uS2, uS3⟩ := reg_4 S
          obtain ⟨uT0, uT1, uT2, uT3⟩ := reg_4 T
          obtain ⟨uF0, uF1⟩ := reg_2 F
          obtain ⟨uLB0, uLB1, uLB2, uLB3, uLB4, uLB5, uLB6, uLB7⟩ := reg_8 LB
          refine wp_region_quiet_below (by kernel_rfl) (by kernel_rfl) ?_
          repeat (first | go_big_quiet_step (first | (go_at_call 32; with_reducible exact Calls.regrown_of (C2.out _ (hs.below (below_regrown _ _ _))))))
          refine wpQuiet_nil ?_
          intro _ hw'
          obtain ⟨⟨dq, osq⟩, hw''⟩ := hw'
          subst hw''
          have J := below_regrown v5 dq osq
          generalize grow (redrawn v5 dq) osq = v6 at J ⊢
          replace S := keep J S
          replace T := keep J T
          replace F := keep J F
          replace LB := keep J LB
          replace BW := bw_trans BW J
          replace hs := hs.below J
          clear J uS0 uS1 uS2 uS3 uT0 uT1 uT2 uT3 uF0 uF1 uLB0 uLB1 uLB2 uLB3 uLB4 uLB5 uLB6 uLB7
          go_upto_region 14 with fail
          obtain ⟨uS0, uS1, uS2, uS3⟩ := reg_4 S
          obtain ⟨uT0, uT1, uT2, uT3⟩ := reg_4 T
          obtain ⟨uF0, uF1⟩ := reg_2 F
          obtain ⟨uLB0, uLB1, uLB2, uLB3, uLB4, uLB5, uLB6, uLB7⟩ := reg_8 LB
          refine wp_region_quiet_below (by kernel_rfl) (by kernel_rfl) ?_
          repeat (first | go_big_quiet_step (first | (go_at_call 32; with_reducible exact Calls.regrown_of (C2.out _ (hs.below (below_regrown _ _ _))))))
          refine wpQuiet_nil ?_
          intro _ hw'
          obtain ⟨⟨dq, osq⟩, hw''⟩ := hw'
          subst hw''
          have J := below_regrown v6 dq osq
          generalize grow (redrawn v6 dq) osq = v7 at J ⊢
          replace S := keep J S
          replace T := keep J T
          replace F := keep J F
          replace LB := keep J LB
          replace BW := bw_trans BW J
          replace hs := hs.below J
          clear J uS0 uS1 uS2 uS3 uT0 uT1 uT2 uT3 uF0 uF1 uLB0 uLB1 uLB2 uLB3 uLB4 uLB5 uLB6 uLB7
          go_wp2_with fail
          rw [rounds_succ]
          go_upto_region 12 with fail
          obtain ⟨uS0, uS1, uS2, uS3⟩ := reg_4 S
          obtain ⟨uT0, uT1, uT2, uT3⟩ := reg_4 T
          obtain ⟨uF0, uF1⟩ := reg_2 F
          obtain ⟨uLB0, uLB1, uLB2, uLB3, uLB4, uLB5, uLB6, uLB7⟩ := reg_8 LB
          refine wp_region_quiet_below (by kernel_rfl) (by kernel_rfl) ?_
          repeat (first | go_big_quiet_step (first | (go_at_call 32; with_reducible exact Calls.regrown_of (C3.out _ (hs.below (below_regrown _ _ _))))))
          refine wpQuiet_nil ?_
          intro _ hw'
          obtain ⟨⟨dq, osq⟩, hw''⟩ := hw'
          subst hw''
          have J := below_regrown v7 dq osq
          generalize grow (redrawn v7 dq) osq = v8 at J ⊢
          replace S := keep J S
          replace T := keep J T
          replace F := keep J F
          replace LB := keep J LB
          replace BW := bw_trans BW J
          replace hs := hs.below J
          clear J uS0 uS1 uS2 uS3 uT0 uT1 uT2 uT3 uF0 uF1 uLB0 uLB1 uLB2 uLB3 uLB4 uLB5 uLB6 uLB7
          go_upto_region 14 with fail
          obtain ⟨uS0, uS1, uS2, uS3⟩ := reg_4 S
          obtain ⟨uT0, uT1, uT2, uT3⟩ := reg_4 T
          obtain ⟨uF0, uF1⟩ := reg_2 F
          obtain ⟨uLB0, uLB1, uLB2, uLB3, uLB4, uLB5, uLB6, uLB7⟩ := reg_8 LB
          refine wp_region_quiet_below (by kernel_rfl) (by kernel_rfl) ?_
          repeat (first | go_big_quiet_step (first | (go_at_call 32; with_reducible exact Calls.regrown_of (C3.out _ (hs.below (below_regrown _ _ _))))))
          refine wpQuiet_nil ?_
          intro _ hw'
          obtain ⟨⟨dq, osq⟩, hw''⟩ := hw'
          subst hw''
          have J := below_regrown v8 dq osq
          generalize grow (redrawn v8 dq) osq = v9 at J ⊢
          replace S := keep J S
          replace T := keep J T
          replace F := keep J F
          replace LB := keep J LB
          replace BW := bw_trans BW J
          replace hs := hs.below J
          clear J uS0 uS1 uS2 uS3 uT0 uT1 uT2 uT3 uF0 uF1 uLB0 uLB1 uLB2 uLB3 uLB4 uLB5 uLB6 uLB7
          go_wp2_with fail
          rw [rounds_succ]
          go_wp2_with fail
          go_ret
          exact ⟨rfl, BW⟩
      · skip
        obtain ⟨uS0, uS1, uS2, uS3⟩ := reg_4 S
        obtain ⟨uT0, uT1, uT2, uT3⟩ := reg_4 T
        obtain ⟨uF0, uF1⟩ := reg_2 F
        obtain ⟨uLB0, uLB1, uLB2, uLB3, uLB4, uLB5, uLB6, uLB7⟩ := reg_8 LB
        refine wp_region_quiet_below (by kernel_rfl) (by kernel_rfl) ?_
        repeat (first | go_big_quiet_step (first | (go_at_call 32; with_reducible exact Calls.regrown_of (C0.out _ (hs.below (below_regrown _ _ _))))))
        refine wpQuiet_nil ?_
        intro _ hw'
        obtain ⟨⟨dq, osq⟩, hw''⟩ := hw'
        subst hw''
        have J := below_regrown v2 dq osq
        generalize grow (redrawn v2 dq) osq = v3 at J ⊢
        replace S := keep J S
        replace T := keep J T
        replace F := keep J F
        replace LB := keep J LB
        replace BW := bw_trans BW J
        replace hs := hs.below J
        clear J uS0 uS1 uS2 uS3 uT0 uT1 uT2 uT3 uF0 uF1 uLB0 uLB1 uLB2 uLB3 uLB4 uLB5 uLB6 uLB7
        go_wp2_with fail
        rw [rounds_succ]
        go_upto_region 12 with fail
        obtain ⟨uS0, uS1, uS2, uS3⟩ := reg_4 S
        obtain ⟨uT0, uT1, uT2, uT3⟩ := reg_4 T
        obtain ⟨uF0, uF1⟩ := reg_2 F
        obtain ⟨uLB0, uLB1, uLB2, uLB3, uLB4, uLB5, uLB6, uLB7⟩ := reg_8 LB
        refine wp_region_quiet_below (by kernel_rfl) (by kernel_rfl) ?_
        repeat (first | go_big_quiet_step (first | (go_at_call 32; with_reducible exact Calls.regrown_of (C1.out _ (hs.below (below_regrown _ _ _))))))
        refine wpQuiet_nil ?_
        intro _ hw'
        obtain ⟨⟨dq, osq⟩, hw''⟩ := hw'
        subst hw''
        have J := below_regrown v3 dq osq
        generalize grow (redrawn v3 dq) osq = v4 at J ⊢
        replace S := keep J S
        replace T := keep J T
        replace F := keep J F
        replace LB := keep J LB
        replace BW := bw_trans BW J
        replace hs := hs.below J
        clear J uS0 uS1 uS2 uS3 uT0 uT1 uT2 uT3 uF0 uF1 uLB0 uLB1 uLB2 uLB3 uLB4 uLB5 uLB6 uLB7
        go_upto_region 14 with fail
        obtain ⟨uS0, uS1, uS2, uS3⟩ := reg_4 S
        obtain ⟨uT0, uT1, uT2, uT3⟩ := reg_4 T
        obtain ⟨uF0, uF1⟩ := reg_2 F
        obtain ⟨uLB0, uLB1, uLB2, uLB3, uLB4, uLB5, uLB6, uLB7⟩ := reg_8 LB
        refine wp_region_quiet_below (by kernel_rfl) (by kernel_rfl) ?_
        repeat (first | go_big_quiet_step (first | (go_at_call 32; with_reducible exact Calls.regrown_of (C1.out _ (hs.below (below_regrown _ _ _))))))
        refine wpQuiet_nil ?_
        intro _ hw'
        obtain ⟨⟨dq, osq⟩, hw''⟩ := hw'
        subst hw''
        have J := below_regrown v4 dq osq
        generalize grow (redrawn v4 dq) osq = v5 at J ⊢
        replace S := keep J S
        replace T := keep J T
        replace F := keep J F
        replace LB := keep J LB
        replace BW := bw_trans BW J
        replace hs := hs.below J
        clear J uS0 uS1 uS2 uS3 uT0 uT1 uT2 uT3 uF0 uF1 uLB0 uLB1 uLB2 uLB3 uLB4 uLB5 uLB6 uLB7
        go_wp2_with fail
        rw [rounds_succ]
        go_upto_region 12 with fail
        obtain ⟨uS0, uS1, uS2, uS3⟩ := reg_4 S
        obtain ⟨uT0, uT1, uT2, uT3⟩ := reg_4 T
        obtain ⟨uF0, uF1⟩ := reg_2 F
        obtain ⟨uLB0, uLB1, uLB2, uLB3, uLB4, uLB5, uLB6, uLB7⟩ := reg_8 LB
        refine wp_region_quiet_below (by kernel_rfl) (by kernel_rfl) ?_
        repeat (first | go_big_quiet_step (first | (go_at_call 32; with_reducible exact Calls.regrown_of (C2.out _ (hs.below (below_regrown _ _ _))))))
        refine wpQuiet_nil ?_
        intro _ hw'
        obtain ⟨⟨dq, osq⟩, hw''⟩ := hw'
        subst hw''
        have J := below_regrown v5 dq osq
        generalize grow (redrawn v5 dq) osq = v6 at J ⊢
        replace S := keep J S
        replace T := keep J T
        replace F := keep J F
        replace LB := keep J LB
        replace BW := bw_trans BW J
        replace hs := hs.below J
        clear J uS0 uS1 uS2 uS3 uT0 uT1 uT2 uT3 uF0 uF1 uLB0 uLB1 uLB2 uLB3 uLB4 uLB5 uLB6 uLB7
        go_upto_region 14 with fail
        obtain ⟨uS0, uS1, uS2, uS3⟩ := reg_4 S
        obtain ⟨uT0, uT1, uT2, uT3⟩ := reg_4 T
        obtain ⟨uF0, uF1⟩ := reg_2 F
        obtain ⟨uLB0, uLB1, uLB2, uLB3, uLB4, uLB5, uLB6, uLB7⟩ := reg_8 LB
        refine wp_region_quiet_below (by kernel_rfl) (by kernel_rfl) ?_
        repeat (first | go_big_quiet_step (first | (go_at_call 32; with_reducible exact Calls.regrown_of (C2.out _ (hs.below (below_regrown _ _ _))))))
        refine wpQuiet_nil ?_
        intro _ hw'
        obtain ⟨⟨dq, osq⟩, hw''⟩ := hw'
        subst hw''
        have J := below_regrown v6 dq osq
        generalize grow (redrawn v6 dq) osq = v7 at J ⊢
        replace S := keep J S
        replace T := keep J T
        replace F := keep J F
        replace LB := keep J LB
        replace BW := bw_trans BW J
        replace hs := hs.below J
        clear J uS0 uS1 uS2 uS3 uT0 uT1 uT2 uT3 uF0 uF1 uLB0 uLB1 uLB2 uLB3 uLB4 uLB5 uLB6 uLB7
        go_wp2_with fail
        rw [rounds_succ]
        go_upto_region 12 with fail
        obtain ⟨uS0, uS1, uS2, uS3⟩ := reg_4 S
        obtain ⟨uT0, uT1, uT2, uT3⟩ := reg_4 T
        obtain ⟨uF0, uF1⟩ := reg_2 F
        obtain ⟨uLB0, uLB1, uLB2, uLB3, uLB4, uLB5, uLB6, uLB7⟩ := reg_8 LB
        refine wp_region_quiet_below (by kernel_rfl) (by kernel_rfl) ?_
        repeat (first | go_big_quiet_step (first | (go_at_call 32; with_reducible exact Calls.regrown_of (C3.out _ (hs.below (below_regrown _ _ _))))))
        refine wpQuiet_nil ?_
        intro _ hw'
        obtain ⟨⟨dq, osq⟩, hw''⟩ := hw'
        subst hw''
        have J := below_regrown v7 dq osq
        generalize grow (redrawn v7 dq) osq = v8 at J ⊢
        replace S := keep J S
        replace T := keep J T
        replace F := keep J F
        replace LB := keep J LB
        replace BW := bw_trans BW J
        replace hs := hs.below J
        clear J uS0 uS1 uS2 uS3 uT0 uT1 uT2 uT3 uF0 uF1 uLB0 uLB1 uLB2 uLB3 uLB4 uLB5 uLB6 uLB7
        go_upto_region 14 with fail
        obtain ⟨uS0, uS1, uS2, uS3⟩ := reg_4 S
        obtain ⟨uT0, uT1, uT2, uT3⟩ := reg_4 T
        obtain ⟨uF0, uF1⟩ := reg_2 F
        obtain ⟨uLB0, uLB1, uLB2, uLB3, uLB4, uLB5, uLB6, uLB7⟩ := reg_8 LB
        refine wp_region_quiet_below (by kernel_rfl) (by kernel_rfl) ?_
        repeat (first | go_big_quiet_step (first | (go_at_call 32; with_reducible exact Calls.regrown_of (C3.out _ (hs.below (below_regrown _ _ _))))))
        refine wpQuiet_nil ?_
        intro _ hw'
        obtain ⟨⟨dq, osq⟩, hw''⟩ := hw'
        subst hw''
        have J := below_regrown v8 dq osq
        generalize grow (redrawn v8 dq) osq = v9 at J ⊢
        replace S := keep J S
        replace T := keep J T
        replace F := keep J F
        replace LB := keep J LB
        replace BW := bw_trans BW J
        replace hs := hs.below J
        clear J uS0 uS1 uS2 uS3 uT0 uT1 uT2 uT3 uF0 uF1 uLB0 uLB1 uLB2 uLB3 uLB4 uLB5 uLB6 uLB7
        go_wp2_with fail
        rw [rounds_succ]
        go_wp2_with fail
        go_ret
        exact ⟨rfl, BW⟩
end Go.Proofs.YtmjbfocghlhecaaDoor
