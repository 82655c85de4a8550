/-
  OUR OWN TEXT. The specification's having a point and meeting, by contract.
-/
import Derived.Test.YthjnfjnnpabenaaGreatDoorHas
namespace Go.Proofs.YthjnfjnnpabenaaGreatDoor
open Go.RowKit Go.Sort

theorem has_in {ax ay bx b_y px py : Int} (hs : sgB ax ay bx b_y = true) (h0 : crs ax ay bx b_y px py = 0) : hasC ax ay bx b_y px py = inR (dt ax ay bx b_y px py) 0 (dt ax ay bx b_y bx b_y) := by
  rw [Bool.eq_iff_iff, has_along (sg_parts hs).2.2, inR_iff]
  exact ⟨fun h => h.2, fun h => ⟨h0, h⟩⟩
set_option maxHeartbeats 1000000 in
theorem sHas_ok (ax ay bx b_y px py : Int) (w : World) (hs : sgB ax ay bx b_y = true) (hp : ptB px py = true) :
    Calls Tryz.prog 62 #[.agg #[.int .i64 ax, .int .i64 ay, .int .i64 bx, .int .i64 b_y], .agg #[.int .i64 px, .int .i64 py]] w fun e w' => e = .returned (.bool (hasC ax ay bx b_y px py)) ∧ Below w.heap.size w w' := by
  obtain ⟨ha, hb, _⟩ := sg_parts hs
  obtain ⟨W, hW, BW, S, T⟩ := boxes2 w (.cells #[.int .i64 ax, .int .i64 ay, .int .i64 bx, .int .i64 b_y] 93) (.cells #[.int .i64 px, .int .i64 py] 73)
  obtain ⟨u0, u1, u2, u3⟩ := reg_4 S
  obtain ⟨u4, u5⟩ := reg_2 T
  clear S T
  by_cases h0 : crs ax ay bx b_y px py = 0
  · have e1 : Hid (hasC ax ay bx b_y px py = inR (dt ax ay bx b_y px py) 0 (dt ax ay bx b_y bx b_y)) := has_in hs h0
    have h0' := eq0 h0
    clear h0
    go_enter Tryz.func62, Tryz.ntmps62
    go_upto_region 1 with fail
    rw [← hW]
    clear hW
    refine wp_region_quiet_below (by kernel_rfl) (by kernel_rfl) ?_
    repeat (first | go_big_quiet_step (first | (go_at_call 64; exact Calls.regrown_of (sCross_any _ _ _ _ _ _ _ ha hb hp)) | (go_at_call 81; exact Calls.regrown_of (sDot_any _ _ _ _ _ _ _ ha hb hp)) | (go_at_call 81; exact Calls.regrown_of (sDot_any _ _ _ _ _ _ _ ha hb hb)) | (go_at_call 40; exact Calls.regrown_of ((in_any _ _ _ _).mono fun _ _ h => ⟨h.1, h.2 ▸ bw_refl _⟩))))
    refine wpQuiet_nil ?_
    intro _ hw'
    obtain ⟨⟨dq, osq⟩, hw''⟩ := hw'
    subst hw''
    have J := below_regrown W dq osq
    generalize grow (redrawn W dq) osq = w1 at J ⊢
    go_wp2_with fail
    go_ret
    exact ⟨ret_bool e1.out.symm, bw_trans BW J⟩
  · have e1 : Hid (hasC ax ay bx b_y px py = false) := by change _ = _; unfold hasC; simp [h0]
    have h0' := ne0 h0
    clear h0
    go_enter Tryz.func62, Tryz.ntmps62
    go_upto_region 1 with fail
    rw [← hW]
    clear hW
    refine wp_region_quiet_below (by kernel_rfl) (by kernel_rfl) ?_
    repeat (first | go_big_quiet_step (first | (go_at_call 64; exact Calls.regrown_of (sCross_any _ _ _ _ _ _ _ ha hb hp))))
    refine wpQuiet_nil ?_
    intro _ hw'
    obtain ⟨⟨dq, osq⟩, hw''⟩ := hw'
    subst hw''
    have J := below_regrown W dq osq
    generalize grow (redrawn W dq) osq = w1 at J ⊢
    go_wp2_with fail
    go_ret
    exact ⟨ret_bool e1.out.symm, bw_trans BW J⟩
theorem meet_alt (ax ay bx b_y cx cy ex ey : Int) : meetC ax ay bx b_y cx cy ex ey = (splB ax ay bx b_y cx cy ex ey && splB cx cy ex ey ax ay bx b_y || hasC ax ay bx b_y cx cy || hasC ax ay bx b_y ex ey || hasC cx cy ex ey ax ay || hasC cx cy ex ey bx b_y) := by
  unfold meetC endB
  cases splB ax ay bx b_y cx cy ex ey <;> cases splB cx cy ex ey ax ay bx b_y <;> cases hasC ax ay bx b_y cx cy <;> cases hasC ax ay bx b_y ex ey <;> cases hasC cx cy ex ey ax ay <;> cases hasC cx cy ex ey bx b_y <;> rfl
set_option maxHeartbeats 2000000 in
theorem sMeet_ok (ax ay bx b_y cx cy ex ey : Int) (w : World) (hs : sgB ax ay bx b_y = true) (ht : sgB cx cy ex ey = true) :
    Calls Tryz.prog 63 #[.agg #[.int .i64 ax, .int .i64 ay, .int .i64 bx, .int .i64 b_y], .agg #[.int .i64 cx, .int .i64 cy, .int .i64 ex, .int .i64 ey]] w fun e w' => e = .returned (.bool (meetC ax ay bx b_y cx cy ex ey)) ∧ Below w.heap.size w w' := by
  obtain ⟨pa, pb, _⟩ := sg_parts hs
  obtain ⟨pc, pd, _⟩ := sg_parts ht
  have p1 := mul1_bd (sgn_bd (crs ax ay bx b_y cx cy)) (sgn_bd (crs ax ay bx b_y ex ey))
  have p2 := mul1_bd (sgn_bd (crs cx cy ex ey ax ay)) (sgn_bd (crs cx cy ex ey bx b_y))
  have eA : Hid (splB ax ay bx b_y cx cy ex ey = decide (cmpI (crs ax ay bx b_y cx cy) 0 * cmpI (crs ax ay bx b_y ex ey) 0 < 0)) := rfl
  have eB : Hid (splB cx cy ex ey ax ay bx b_y = decide (cmpI (crs cx cy ex ey ax ay) 0 * cmpI (crs cx cy ex ey bx b_y) 0 < 0)) := rfl
  have eM : Hid (meetC ax ay bx b_y cx cy ex ey = _) := meet_alt ax ay bx b_y cx cy ex ey
  obtain ⟨W, hW, BW, S, T⟩ := boxes2 w (.cells #[.int .i64 ax, .int .i64 ay, .int .i64 bx, .int .i64 b_y] 93) (.cells #[.int .i64 cx, .int .i64 cy, .int .i64 ex, .int .i64 ey] 93)
  obtain ⟨u0, u1, u2, u3⟩ := reg_4 S
  obtain ⟨u4, u5, u6, u7⟩ := reg_4 T
  go_enter Tryz.func63, Tryz.ntmps63
  go_upto_region 1 with fail
  rw [← hW]
  clear hW
  refine wp_region_quiet_below (by kernel_rfl) (by kernel_rfl) ?_
  repeat (first | go_big_quiet_step (first | (go_at_call 82; exact Calls.regrown_of (sSign_any _ _)) | (go_at_call 64; exact Calls.regrown_of (sCross_any _ _ _ _ _ _ _ pa pb pc)) | (go_at_call 64; exact Calls.regrown_of (sCross_any _ _ _ _ _ _ _ pa pb pd))))
  refine wpQuiet_nil ?_
  intro _ hw'
  obtain ⟨⟨dq, osq⟩, hw''⟩ := hw'
  subst hw''
  have J := below_regrown W dq osq
  generalize grow (redrawn W dq) osq = w1 at J ⊢
  replace BW := bw_trans BW J
  replace S := keep J S
  replace T := keep J T
  clear J u0 u1 u2 u3 u4 u5 u6 u7
  go_upto_region 2 with fail
  obtain ⟨u0, u1, u2, u3⟩ := reg_4 S
  obtain ⟨u4, u5, u6, u7⟩ := reg_4 T
  refine wp_region_quiet_below (by kernel_rfl) (by kernel_rfl) ?_
  repeat (first | go_big_quiet_step (first | (go_at_call 82; exact Calls.regrown_of (sSign_any _ _)) | (go_at_call 64; exact Calls.regrown_of (sCross_any _ _ _ _ _ _ _ pc pd pa)) | (go_at_call 64; exact Calls.regrown_of (sCross_any _ _ _ _ _ _ _ pc pd pb))))
  refine wpQuiet_nil ?_
  intro _ hw'
  obtain ⟨⟨dq, osq⟩, hw''⟩ := hw'
  subst hw''
  have J := below_regrown w1 dq osq
  generalize grow (redrawn w1 dq) osq = w2 at J ⊢
  replace BW := bw_trans BW J
  replace S := keep J S
  replace T := keep J T
  clear J u0 u1 u2 u3 u4 u5 u6 u7
  have z1 := blk_lt S
  have z2 := blk_lt T
  obtain ⟨f0, f1, f2, f3⟩ := blk_4 S
  obtain ⟨f4, f5, f6, f7⟩ := blk_4 T
  clear S T
  by_cases hA : cmpI (crs ax ay bx b_y cx cy) 0 * cmpI (crs ax ay bx b_y ex ey) 0 < 0
  · have qA : Hid (splB ax ay bx b_y cx cy ex ey = true) := by rw [eA.out]; exact decide_eq_true hA
    by_cases hB : cmpI (crs cx cy ex ey ax ay) 0 * cmpI (crs cx cy ex ey bx b_y) 0 < 0
    · have qB : Hid (splB cx cy ex ey ax ay bx b_y = true) := by rw [eB.out]; exact decide_eq_true hB
      go_wp2_with fail
      go_ret
      exact ⟨ret_bool (by rw [eM.out, qA.out, qB.out]; rfl), BW⟩
    · have qB : Hid (splB cx cy ex ey ax ay bx b_y = false) := by rw [eB.out]; exact decide_eq_false hB
      cases h0 : hasC ax ay bx b_y cx cy
      · go_wp2_with fail
        refine (sHas_ok _ _ _ _ _ _ _ hs pc).mono ?_
        rw [h0]
        rintro e w1 ⟨rfl, J⟩
        obtain ⟨hc, hf⟩ := bcell J
        cases h1 : hasC ax ay bx b_y ex ey
        · go_wp2_with fail
          refine (sHas_ok _ _ _ _ _ _ _ hs pd).mono ?_
          rw [h1]
          rintro e w1 ⟨rfl, J2⟩
          replace J := bw_trans J J2
          clear hc hf J2
          obtain ⟨hc, hf⟩ := bcell J
          cases h2 : hasC cx cy ex ey ax ay
          · go_wp2_with fail
            refine (sHas_ok _ _ _ _ _ _ _ ht pa).mono ?_
            rw [h2]
            rintro e w1 ⟨rfl, J2⟩
            replace J := bw_trans J J2
            clear hc hf J2
            obtain ⟨hc, hf⟩ := bcell J
            go_wp2_with fail
            refine (sHas_ok _ _ _ _ _ _ _ ht pb).mono ?_
            rintro e w1 ⟨rfl, J2⟩
            replace J := bw_trans J J2
            clear hc hf J2
            obtain ⟨hc, hf⟩ := bcell J
            go_wp2_with fail
            go_ret
            exact ⟨ret_bool (by rw [eM.out, qA.out, qB.out, h0, h1, h2]; rfl), bw_trans BW J⟩
          · go_wp2_with fail
            refine (sHas_ok _ _ _ _ _ _ _ ht pa).mono ?_
            rw [h2]
            rintro e w1 ⟨rfl, J2⟩
            replace J := bw_trans J J2
            clear hc hf J2
            obtain ⟨hc, hf⟩ := bcell J
            go_wp2_with fail
            go_ret
            exact ⟨ret_bool (by rw [eM.out, qA.out, qB.out, h0, h1, h2]; rfl), bw_trans BW J⟩
        · go_wp2_with fail
          refine (sHas_ok _ _ _ _ _ _ _ hs pd).mono ?_
          rw [h1]
          rintro e w1 ⟨rfl, J2⟩
          replace J := bw_trans J J2
          clear hc hf J2
          obtain ⟨hc, hf⟩ := bcell J
          go_wp2_with fail
          go_ret
          exact ⟨ret_bool (by rw [eM.out, qA.out, qB.out, h0, h1]; rfl), bw_trans BW J⟩
      · go_wp2_with fail
        refine (sHas_ok _ _ _ _ _ _ _ hs pc).mono ?_
        rw [h0]
        rintro e w1 ⟨rfl, J⟩
        obtain ⟨hc, hf⟩ := bcell J
        go_wp2_with fail
        go_ret
        exact ⟨ret_bool (by rw [eM.out, qA.out, qB.out, h0]; rfl), bw_trans BW J⟩
  · have qA : Hid (splB ax ay bx b_y cx cy ex ey = false) := by rw [eA.out]; exact decide_eq_false hA
    cases h0 : hasC ax ay bx b_y cx cy
    · go_wp2_with fail
      refine (sHas_ok _ _ _ _ _ _ _ hs pc).mono ?_
      rw [h0]
      rintro e w1 ⟨rfl, J⟩
      obtain ⟨hc, hf⟩ := bcell J
      cases h1 : hasC ax ay bx b_y ex ey
      · go_wp2_with fail
        refine (sHas_ok _ _ _ _ _ _ _ hs pd).mono ?_
        rw [h1]
        rintro e w1 ⟨rfl, J2⟩
        replace J := bw_trans J J2
        clear hc hf J2
        obtain ⟨hc, hf⟩ := bcell J
        cases h2 : hasC cx cy ex ey ax ay
        · go_wp2_with fail
          refine (sHas_ok _ _ _ _ _ _ _ ht pa).mono ?_
          rw [h2]
          rintro e w1 ⟨rfl, J2⟩
          replace J := bw_trans J J2
          clear hc hf J2
          obtain ⟨hc, hf⟩ := bcell J
          go_wp2_with fail
          refine (sHas_ok _ _ _ _ _ _ _ ht pb).mono ?_
          rintro e w1 ⟨rfl, J2⟩
          replace J := bw_trans J J2
          clear hc hf J2
          obtain ⟨hc, hf⟩ := bcell J
          go_wp2_with fail
          go_ret
          exact ⟨ret_bool (by rw [eM.out, qA.out, h0, h1, h2]; rfl), bw_trans BW J⟩
        · go_wp2_with fail
          refine (sHas_ok _ _ _ _ _ _ _ ht pa).mono ?_
          rw [h2]
          rintro e w1 ⟨rfl, J2⟩
          replace J := bw_trans J J2
          clear hc hf J2
          obtain ⟨hc, hf⟩ := bcell J
          go_wp2_with fail
          go_ret
          exact ⟨ret_bool (by rw [eM.out, qA.out, h0, h1, h2]; rfl), bw_trans BW J⟩
      · go_wp2_with fail
        refine (sHas_ok _ _ _ _ _ _ _ hs pd).mono ?_
        rw [h1]
        rintro e w1 ⟨rfl, J2⟩
        replace J := bw_trans J J2
        clear hc hf J2
        obtain ⟨hc, hf⟩ := bcell J
        go_wp2_with fail
        go_ret
        exact ⟨ret_bool (by rw [eM.out, qA.out, h0, h1]; rfl), bw_trans BW J⟩
    · go_wp2_with fail
      refine (sHas_ok _ _ _ _ _ _ _ hs pc).mono ?_
      rw [h0]
      rintro e w1 ⟨rfl, J⟩
      obtain ⟨hc, hf⟩ := bcell J
      go_wp2_with fail
      go_ret
      exact ⟨ret_bool (by rw [eM.out, qA.out, h0]; rfl), bw_trans BW J⟩
end Go.Proofs.YthjnfjnnpabenaaGreatDoor
