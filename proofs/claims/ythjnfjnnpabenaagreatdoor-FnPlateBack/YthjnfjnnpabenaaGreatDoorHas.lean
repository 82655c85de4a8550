/-
  OUR OWN TEXT. A segment has a point; two segments meet: the program and the specification, by contract, at every argument.
-/
import Derived.Test.YthjnfjnnpabenaaGreatDoorTurn
import Derived.Test.YthjnfjnnpabenaaGreatDoorBoxes
namespace Go.Proofs.YthjnfjnnpabenaaGreatDoor
open Go.RowKit Go.Sort

/-- The segment has the point, at whatever arguments. -/
def hasV (ax ay bx b_y px py : Int) : Bool := sgB ax ay bx b_y && ptB px py && hasC ax ay bx b_y px py
theorem eq0 {x : Int} (h : x = 0) : (x == 0) = true := by simpa using h
theorem ne0 {x : Int} (h : x ≠ 0) : (x == 0) = false := by simpa using h

set_option maxHeartbeats 400000 in
theorem has_any (ax ay bx b_y px py : Int) (w : World) :
    Calls Tryz.prog 91 #[.agg #[.int .i64 ax, .int .i64 ay, .int .i64 bx, .int .i64 b_y], .agg #[.int .i64 px, .int .i64 py]] w fun e w' => e = .returned (.bool (hasV ax ay bx b_y px py)) ∧ Below w.heap.size w w' := by
  cases hs : sgB ax ay bx b_y
  · have e1 : Hid (hasV ax ay bx b_y px py = false) := by unfold hasV; rw [hs]; rfl
    go_enter Tryz.func91, Tryz.ntmps91
    go_wp2_with fail
    refine (segOk_any _ _ _ _ _).mono ?_
    rw [hs]
    rintro e w1 ⟨rfl, J⟩
    obtain ⟨hc, hf⟩ := bcell J
    go_wp2_with fail
    go_ret
    exact ⟨ret_bool e1.out.symm, bw_trans (by repeat (first | exact bw_refl _ | assumption | apply bw_drewN | apply bw_drew | apply bw_alloc | refine bw_set ?_ (by simp) _)) J⟩
  · cases hp : ptB px py
    · have e1 : Hid (hasV ax ay bx b_y px py = false) := by unfold hasV; rw [hs, hp]; rfl
      go_enter Tryz.func91, Tryz.ntmps91
      go_wp2_with fail
      refine (segOk_any _ _ _ _ _).mono ?_
      rw [hs]
      rintro e w1 ⟨rfl, J⟩
      obtain ⟨hc, hf⟩ := bcell J
      go_wp2_with fail
      refine (ptOk_any _ _ _).mono ?_
      rw [hp]
      rintro e w1 ⟨rfl, J2⟩
      replace J := bw_trans J J2
      clear hc hf J2
      obtain ⟨hc, hf⟩ := bcell J
      go_wp2_with fail
      go_ret
      exact ⟨ret_bool e1.out.symm, bw_trans (by repeat (first | exact bw_refl _ | assumption | apply bw_drewN | apply bw_drew | apply bw_alloc | refine bw_set ?_ (by simp) _)) J⟩
    · obtain ⟨ha, hb, hd⟩ := sg_parts hs
      by_cases h0 : crs ax ay bx b_y px py = 0
      · have e1 : Hid (hasV ax ay bx b_y px py = decide (dt px py ax ay bx b_y ≤ 0)) := by change _ = _; unfold hasV hasC; rw [hs, hp, h0]; simp
        have h0' := eq0 h0
        clear h0 hd
        go_enter Tryz.func91, Tryz.ntmps91
        go_wp2_with fail
        refine (segOk_any _ _ _ _ _).mono ?_
        rw [hs]
        rintro e w1 ⟨rfl, J⟩
        obtain ⟨hc, hf⟩ := bcell J
        go_wp2_with fail
        refine (ptOk_any _ _ _).mono ?_
        rw [hp]
        rintro e w1 ⟨rfl, J2⟩
        replace J := bw_trans J J2
        clear hc hf J2
        obtain ⟨hc, hf⟩ := bcell J
        go_wp2_with fail
        refine (swept_any _ _ _ _ _ _ _ ha hb hp).mono ?_
        rintro e w1 ⟨rfl, J2⟩
        replace J := bw_trans J J2
        clear hc hf J2
        obtain ⟨hc, hf⟩ := bcell J
        go_wp2_with fail
        refine (along_any _ _ _ _ _ _ _ hp ha hb).mono ?_
        rintro e w1 ⟨rfl, J2⟩
        replace J := bw_trans J J2
        clear hc hf J2
        obtain ⟨hc, hf⟩ := bcell J
        go_wp2_with fail
        go_ret
        exact ⟨ret_bool e1.out.symm, bw_trans (by repeat (first | exact bw_refl _ | assumption | apply bw_drewN | apply bw_drew | apply bw_alloc | refine bw_set ?_ (by simp) _)) J⟩
      · have e1 : Hid (hasV ax ay bx b_y px py = false) := by change _ = _; unfold hasV hasC; rw [hs, hp]; simp [h0]
        have h0' := ne0 h0
        clear h0 hd
        go_enter Tryz.func91, Tryz.ntmps91
        go_wp2_with fail
        refine (segOk_any _ _ _ _ _).mono ?_
        rw [hs]
        rintro e w1 ⟨rfl, J⟩
        obtain ⟨hc, hf⟩ := bcell J
        go_wp2_with fail
        refine (ptOk_any _ _ _).mono ?_
        rw [hp]
        rintro e w1 ⟨rfl, J2⟩
        replace J := bw_trans J J2
        clear hc hf J2
        obtain ⟨hc, hf⟩ := bcell J
        go_wp2_with fail
        refine (swept_any _ _ _ _ _ _ _ ha hb hp).mono ?_
        rintro e w1 ⟨rfl, J2⟩
        replace J := bw_trans J J2
        clear hc hf J2
        obtain ⟨hc, hf⟩ := bcell J
        go_wp2_with fail
        go_ret
        exact ⟨ret_bool e1.out.symm, bw_trans (by repeat (first | exact bw_refl _ | assumption | apply bw_drewN | apply bw_drew | apply bw_alloc | refine bw_set ?_ (by simp) _)) J⟩
theorem has_val {ax ay bx b_y px py : Int} (hs : sgB ax ay bx b_y = true) (hp : ptB px py = true) : hasV ax ay bx b_y px py = hasC ax ay bx b_y px py := by unfold hasV; rw [hs, hp]; rfl
theorem has_ok (ax ay bx b_y px py : Int) (w : World) (hs : sgB ax ay bx b_y = true) (hp : ptB px py = true) :
    Calls Tryz.prog 91 #[.agg #[.int .i64 ax, .int .i64 ay, .int .i64 bx, .int .i64 b_y], .agg #[.int .i64 px, .int .i64 py]] w fun e w' => e = .returned (.bool (hasC ax ay bx b_y px py)) ∧ Below w.heap.size w w' := by
  rw [← has_val hs hp]; exact has_any _ _ _ _ _ _ _

theorem hasEnd_ok (ax ay bx b_y cx cy ex ey : Int) (w : World) (hs : sgB ax ay bx b_y = true) (ht : sgB cx cy ex ey = true) :
    Calls Tryz.prog 92 #[.agg #[.int .i64 ax, .int .i64 ay, .int .i64 bx, .int .i64 b_y], .agg #[.int .i64 cx, .int .i64 cy, .int .i64 ex, .int .i64 ey]] w fun e w' => e = .returned (.bool (endB ax ay bx b_y cx cy ex ey)) ∧ Below w.heap.size w w' := by
  obtain ⟨hc1, hc2, _⟩ := sg_parts ht
  cases h : hasC ax ay bx b_y cx cy
  · have e1 : Hid (endB ax ay bx b_y cx cy ex ey = hasC ax ay bx b_y ex ey) := by unfold endB; rw [h]; rfl
    go_enter Tryz.func92, Tryz.ntmps92
    go_wp2_with fail
    refine (has_ok _ _ _ _ _ _ _ hs hc1).mono ?_
    rw [h]
    rintro e w1 ⟨rfl, J⟩
    obtain ⟨hc, hf⟩ := bcell J
    go_wp2_with fail
    refine (has_ok _ _ _ _ _ _ _ hs hc2).mono ?_
    rintro e w1 ⟨rfl, J2⟩
    replace J := bw_trans J J2
    clear hc hf J2
    obtain ⟨hc, hf⟩ := bcell J
    go_wp2_with fail
    go_ret
    exact ⟨ret_bool e1.out.symm, bw_trans (by repeat (first | exact bw_refl _ | assumption | apply bw_drewN | apply bw_drew | apply bw_alloc | refine bw_set ?_ (by simp) _)) J⟩
  · have e1 : Hid (endB ax ay bx b_y cx cy ex ey = true) := by unfold endB; rw [h]; rfl
    go_enter Tryz.func92, Tryz.ntmps92
    go_wp2_with fail
    refine (has_ok _ _ _ _ _ _ _ hs hc1).mono ?_
    rw [h]
    rintro e w1 ⟨rfl, J⟩
    obtain ⟨hc, hf⟩ := bcell J
    go_wp2_with fail
    go_ret
    exact ⟨ret_bool e1.out.symm, bw_trans (by repeat (first | exact bw_refl _ | assumption | apply bw_drewN | apply bw_drew | apply bw_alloc | refine bw_set ?_ (by simp) _)) J⟩
theorem tn_bd (ax ay bx b_y cx cy : Int) : -1 ≤ tn ax ay bx b_y cx cy ∧ tn ax ay bx b_y cx cy ≤ 1 := by
  unfold tn cmpI; split
  · omega
  · split <;> omega
theorem sgn_bd (x : Int) : -1 ≤ cmpI x 0 ∧ cmpI x 0 ≤ 1 := by
  unfold cmpI; split
  · omega
  · split <;> omega
theorem mul1_bd {x y : Int} (h1 : -1 ≤ x ∧ x ≤ 1) (h2 : -1 ≤ y ∧ y ≤ 1) : -1 ≤ x * y ∧ x * y ≤ 1 := by
  have hx : x = -1 ∨ x = 0 ∨ x = 1 := by omega
  rcases hx with rfl | rfl | rfl <;> omega
theorem turn_ok (ax ay bx b_y cx cy : Int) (w : World) (ha : ptB ax ay = true) (hb : ptB bx b_y = true) (hc : ptB cx cy = true) :
    Calls Tryz.prog 107 #[.agg #[.int .i64 ax, .int .i64 ay], .agg #[.int .i64 bx, .int .i64 b_y], .agg #[.int .i64 cx, .int .i64 cy]] w fun e w' => e = .returned (.int .i64 (tn ax ay bx b_y cx cy)) ∧ Below w.heap.size w w' := by
  have e : turnV ax ay bx b_y cx cy = tn ax ay bx b_y cx cy := by unfold turnV; rw [ha, hb, hc]; rfl
  rw [← e]; exact turn_any _ _ _ _ _ _ _

set_option maxHeartbeats 400000 in
theorem splits_ok (ax ay bx b_y cx cy ex ey : Int) (w : World) (hs : sgB ax ay bx b_y = true) (ht : sgB cx cy ex ey = true) :
    Calls Tryz.prog 93 #[.agg #[.int .i64 ax, .int .i64 ay, .int .i64 bx, .int .i64 b_y], .agg #[.int .i64 cx, .int .i64 cy, .int .i64 ex, .int .i64 ey]] w fun e w' => e = .returned (.bool (splB ax ay bx b_y cx cy ex ey)) ∧ Below w.heap.size w w' := by
  obtain ⟨ha, hb, _⟩ := sg_parts hs
  obtain ⟨hc, hd, _⟩ := sg_parts ht
  have p1 := mul1_bd (tn_bd ax ay bx b_y cx cy) (tn_bd ax ay bx b_y ex ey)
  obtain ⟨W, hW, BW, S, T⟩ := boxes2 w (.cells #[.int .i64 ax, .int .i64 ay, .int .i64 bx, .int .i64 b_y] 93) (.cells #[.int .i64 cx, .int .i64 cy, .int .i64 ex, .int .i64 ey] 93)
  obtain ⟨u0, u1, u2, u3⟩ := reg_4 S
  obtain ⟨u4, u5, u6, u7⟩ := reg_4 T
  clear S T
  go_enter Tryz.func93, Tryz.ntmps93
  go_upto_region 1 with fail
  rw [← hW]
  clear hW
  refine wp_region_quiet_below (by kernel_rfl) (by kernel_rfl) ?_
  repeat (first | go_big_quiet_step (first | (go_at_call 107; exact Calls.regrown_of (turn_ok _ _ _ _ _ _ _ ha hb hc)) | (go_at_call 107; exact Calls.regrown_of (turn_ok _ _ _ _ _ _ _ ha hb hd))))
  refine wpQuiet_nil ?_
  intro _ hw'
  obtain ⟨⟨dq, osq⟩, hw''⟩ := hw'
  subst hw''
  have J := below_regrown W dq osq
  generalize grow (redrawn W dq) osq = w1 at J ⊢
  go_wp2_with fail
  go_ret
  exact ⟨rfl, bw_trans BW J⟩

/-- The segments meet, at whatever arguments. -/
def meetV (ax ay bx b_y cx cy ex ey : Int) : Bool := sgB ax ay bx b_y && sgB cx cy ex ey && meetC ax ay bx b_y cx cy ex ey
set_option maxHeartbeats 1000000 in
theorem meet_any (ax ay bx b_y cx cy ex ey : Int) (w : World) :
    Calls Tryz.prog 79 #[.agg #[.int .i64 ax, .int .i64 ay, .int .i64 bx, .int .i64 b_y], .agg #[.int .i64 cx, .int .i64 cy, .int .i64 ex, .int .i64 ey]] w fun e w' => e = .returned (.bool (meetV ax ay bx b_y cx cy ex ey)) ∧ Below w.heap.size w w' := by
  cases hs : sgB ax ay bx b_y
  · have e1 : Hid (meetV ax ay bx b_y cx cy ex ey = false) := by unfold meetV; rw [hs]; rfl
    go_enter Tryz.func79, Tryz.ntmps79
    go_wp2_with fail
    refine (segOk_any _ _ _ _ _).mono ?_
    rw [hs]
    rintro e w1 ⟨rfl, J⟩
    obtain ⟨hc, hf⟩ := bcell J
    go_wp2_with fail
    go_ret
    exact ⟨ret_bool e1.out.symm, bw_trans (by repeat (first | exact bw_refl _ | assumption | apply bw_drewN | apply bw_drew | apply bw_alloc | refine bw_set ?_ (by simp) _)) J⟩
  · cases ht : sgB cx cy ex ey
    · have e1 : Hid (meetV ax ay bx b_y cx cy ex ey = false) := by unfold meetV; rw [hs, ht]; rfl
      go_enter Tryz.func79, Tryz.ntmps79
      go_wp2_with fail
      refine (segOk_any _ _ _ _ _).mono ?_
      rw [hs]
      rintro e w1 ⟨rfl, J⟩
      obtain ⟨hc, hf⟩ := bcell J
      go_wp2_with fail
      refine (segOk_any _ _ _ _ _).mono ?_
      rw [ht]
      rintro e w1 ⟨rfl, J2⟩
      replace J := bw_trans J J2
      clear hc hf J2
      obtain ⟨hc, hf⟩ := bcell J
      go_wp2_with fail
      go_ret
      exact ⟨ret_bool e1.out.symm, bw_trans (by repeat (first | exact bw_refl _ | assumption | apply bw_drewN | apply bw_drew | apply bw_alloc | refine bw_set ?_ (by simp) _)) J⟩
    · have e0 : Hid (meetV ax ay bx b_y cx cy ex ey = meetC ax ay bx b_y cx cy ex ey) := by unfold meetV; rw [hs, ht]; rfl
      cases h1 : endB ax ay bx b_y cx cy ex ey
      · cases h2 : endB cx cy ex ey ax ay bx b_y
        · cases h3 : splB ax ay bx b_y cx cy ex ey
          · have e1 : Hid (meetC ax ay bx b_y cx cy ex ey = false) := by unfold meetC; rw [h1, h2, h3]; rfl
            go_enter Tryz.func79, Tryz.ntmps79
            go_wp2_with fail
            refine (segOk_any _ _ _ _ _).mono ?_
            rw [hs]
            rintro e w1 ⟨rfl, J⟩
            obtain ⟨hc, hf⟩ := bcell J
            go_wp2_with fail
            refine (segOk_any _ _ _ _ _).mono ?_
            rw [ht]
            rintro e w1 ⟨rfl, J2⟩
            replace J := bw_trans J J2
            clear hc hf J2
            obtain ⟨hc, hf⟩ := bcell J
            go_wp2_with fail
            refine (hasEnd_ok _ _ _ _ _ _ _ _ _ hs ht).mono ?_
            rw [h1]
            rintro e w1 ⟨rfl, J2⟩
            replace J := bw_trans J J2
            clear hc hf J2
            obtain ⟨hc, hf⟩ := bcell J
            go_wp2_with fail
            refine (hasEnd_ok _ _ _ _ _ _ _ _ _ ht hs).mono ?_
            rw [h2]
            rintro e w1 ⟨rfl, J2⟩
            replace J := bw_trans J J2
            clear hc hf J2
            obtain ⟨hc, hf⟩ := bcell J
            go_wp2_with fail
            refine (splits_ok _ _ _ _ _ _ _ _ _ hs ht).mono ?_
            rw [h3]
            rintro e w1 ⟨rfl, J2⟩
            replace J := bw_trans J J2
            clear hc hf J2
            obtain ⟨hc, hf⟩ := bcell J
            go_wp2_with fail
            go_ret
            exact ⟨ret_bool (by rw [e0.out, e1.out]), bw_trans (by repeat (first | exact bw_refl _ | assumption | apply bw_drewN | apply bw_drew | apply bw_alloc | refine bw_set ?_ (by simp) _)) J⟩
          · have e1 : Hid (meetC ax ay bx b_y cx cy ex ey = splB cx cy ex ey ax ay bx b_y) := by unfold meetC; rw [h1, h2, h3]; rfl
            go_enter Tryz.func79, Tryz.ntmps79
            go_wp2_with fail
            refine (segOk_any _ _ _ _ _).mono ?_
            rw [hs]
            rintro e w1 ⟨rfl, J⟩
            obtain ⟨hc, hf⟩ := bcell J
            go_wp2_with fail
            refine (segOk_any _ _ _ _ _).mono ?_
            rw [ht]
            rintro e w1 ⟨rfl, J2⟩
            replace J := bw_trans J J2
            clear hc hf J2
            obtain ⟨hc, hf⟩ := bcell J
            go_wp2_with fail
            refine (hasEnd_ok _ _ _ _ _ _ _ _ _ hs ht).mono ?_
            rw [h1]
            rintro e w1 ⟨rfl, J2⟩
            replace J := bw_trans J J2
            clear hc hf J2
            obtain ⟨hc, hf⟩ := bcell J
            go_wp2_with fail
            refine (hasEnd_ok _ _ _ _ _ _ _ _ _ ht hs).mono ?_
            rw [h2]
            rintro e w1 ⟨rfl, J2⟩
            replace J := bw_trans J J2
            clear hc hf J2
            obtain ⟨hc, hf⟩ := bcell J
            go_wp2_with fail
            refine (splits_ok _ _ _ _ _ _ _ _ _ hs ht).mono ?_
            rw [h3]
            rintro e w1 ⟨rfl, J2⟩
            replace J := bw_trans J J2
            clear hc hf J2
            obtain ⟨hc, hf⟩ := bcell J
            go_wp2_with fail
            refine (splits_ok _ _ _ _ _ _ _ _ _ ht hs).mono ?_
            rintro e w1 ⟨rfl, J2⟩
            replace J := bw_trans J J2
            clear hc hf J2
            obtain ⟨hc, hf⟩ := bcell J
            go_wp2_with fail
            go_ret
            exact ⟨ret_bool (by rw [e0.out, e1.out]), bw_trans (by repeat (first | exact bw_refl _ | assumption | apply bw_drewN | apply bw_drew | apply bw_alloc | refine bw_set ?_ (by simp) _)) J⟩
        · have e1 : Hid (meetC ax ay bx b_y cx cy ex ey = true) := by unfold meetC; rw [h1, h2]; rfl
          go_enter Tryz.func79, Tryz.ntmps79
          go_wp2_with fail
          refine (segOk_any _ _ _ _ _).mono ?_
          rw [hs]
          rintro e w1 ⟨rfl, J⟩
          obtain ⟨hc, hf⟩ := bcell J
          go_wp2_with fail
          refine (segOk_any _ _ _ _ _).mono ?_
          rw [ht]
          rintro e w1 ⟨rfl, J2⟩
          replace J := bw_trans J J2
          clear hc hf J2
          obtain ⟨hc, hf⟩ := bcell J
          go_wp2_with fail
          refine (hasEnd_ok _ _ _ _ _ _ _ _ _ hs ht).mono ?_
          rw [h1]
          rintro e w1 ⟨rfl, J2⟩
          replace J := bw_trans J J2
          clear hc hf J2
          obtain ⟨hc, hf⟩ := bcell J
          go_wp2_with fail
          refine (hasEnd_ok _ _ _ _ _ _ _ _ _ ht hs).mono ?_
          rw [h2]
          rintro e w1 ⟨rfl, J2⟩
          replace J := bw_trans J J2
          clear hc hf J2
          obtain ⟨hc, hf⟩ := bcell J
          go_wp2_with fail
          go_ret
          exact ⟨ret_bool (by rw [e0.out, e1.out]), bw_trans (by repeat (first | exact bw_refl _ | assumption | apply bw_drewN | apply bw_drew | apply bw_alloc | refine bw_set ?_ (by simp) _)) J⟩
      · have e1 : Hid (meetC ax ay bx b_y cx cy ex ey = true) := by unfold meetC; rw [h1]; rfl
        go_enter Tryz.func79, Tryz.ntmps79
        go_wp2_with fail
        refine (segOk_any _ _ _ _ _).mono ?_
        rw [hs]
        rintro e w1 ⟨rfl, J⟩
        obtain ⟨hc, hf⟩ := bcell J
        go_wp2_with fail
        refine (segOk_any _ _ _ _ _).mono ?_
        rw [ht]
        rintro e w1 ⟨rfl, J2⟩
        replace J := bw_trans J J2
        clear hc hf J2
        obtain ⟨hc, hf⟩ := bcell J
        go_wp2_with fail
        refine (hasEnd_ok _ _ _ _ _ _ _ _ _ hs ht).mono ?_
        rw [h1]
        rintro e w1 ⟨rfl, J2⟩
        replace J := bw_trans J J2
        clear hc hf J2
        obtain ⟨hc, hf⟩ := bcell J
        go_wp2_with fail
        go_ret
        exact ⟨ret_bool (by rw [e0.out, e1.out]), bw_trans (by repeat (first | exact bw_refl _ | assumption | apply bw_drewN | apply bw_drew | apply bw_alloc | refine bw_set ?_ (by simp) _)) J⟩
theorem meet_ok (ax ay bx b_y cx cy ex ey : Int) (w : World) (hs : sgB ax ay bx b_y = true) (ht : sgB cx cy ex ey = true) :
    Calls Tryz.prog 79 #[.agg #[.int .i64 ax, .int .i64 ay, .int .i64 bx, .int .i64 b_y], .agg #[.int .i64 cx, .int .i64 cy, .int .i64 ex, .int .i64 ey]] w fun e w' => e = .returned (.bool (meetC ax ay bx b_y cx cy ex ey)) ∧ Below w.heap.size w w' := by
  have e : meetV ax ay bx b_y cx cy ex ey = meetC ax ay bx b_y cx cy ex ey := by unfold meetV; rw [hs, ht]; rfl
  rw [← e]; exact meet_any _ _ _ _ _ _ _ _ _
end Go.Proofs.YthjnfjnnpabenaaGreatDoor
