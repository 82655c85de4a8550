/-
  OUR OWN TEXT. The law FnMeetHas, walked: whatever bytes come in, it answers true and writes nothing that was there.
-/
import Derived.Test.YtmjbfocghlhecaaDrawP
import Derived.Test.YtmjbfocghlhecaaSMeet
import Derived.Test.YtmjbfocghlhecaaLu
namespace Go.Proofs.Ytmjbfocghlhecaa
open Go.RowKit Go.Sort

theorem meetHas_long (w : World) (a0 : Option Addr) (len0 cap0 : Nat) (h : 1048576 < len0) :
    Calls Try.prog 9 #[.slice a0 len0 cap0] w fun e w' => e = .returned (.bool true) ∧ Below w.heap.size w w' := by
  go_enter Try.func9, Try.ntmps9
  go_wp2
  go_ret
  exact ⟨rfl, bw_refl _⟩
set_option maxHeartbeats 2000000 in
theorem meetHas_walk (w : World) (a0 : Option Addr) (len0 cap0 : Nat) (z0 : List Int) (r0 : IsRow .u8 w a0 len0 cap0 z0) :
    Calls Try.prog 9 #[.slice a0 len0 cap0] w fun e w' => e = .returned (.bool true) ∧ Below w.heap.size w w' := by
  by_cases hl : 1048576 < len0
  · exact meetHas_long w a0 len0 cap0 hl
  have hl0 : len0 ≤ 1048576 := by omega
  clear hl
  go_enter Try.func9, Try.ntmps9
  go_wp2_with fail
  refine (drawMeet_any w _ r0 (bw_refl _)).mono ?_
  rintro e w0 ⟨ax, ay, bx, b_y, cx, cy, ex, ey, rfl, b1⟩
  obtain ⟨W, hW, BW, S, T⟩ := boxes2 w0 (.cells #[.int .i64 ax, .int .i64 ay, .int .i64 bx, .int .i64 b_y] 30) (.cells #[.int .i64 cx, .int .i64 cy, .int .i64 ex, .int .i64 ey] 30)
  replace BW := bw_trans b1 BW
  clear b1
  go_upto_region 4 with fail
  rw [← hW]
  clear hW
  have zS := blk_lt S
  obtain ⟨fS0, fS1, fS2, fS3⟩ := blk_4 S
  have zT := blk_lt T
  obtain ⟨fT0, fT1, fT2, fT3⟩ := blk_4 T
  cases gs : sgB ax ay bx b_y
  · have e0 : meetV ax ay bx b_y cx cy ex ey = false := by unfold meetV; rw [gs]; rfl
    go_wp2_with fail
    refine (meet_any _ _ _ _ _ _ _ _ _).mono ?_
    rw [e0]
    rintro e w1 ⟨rfl, J⟩
    obtain ⟨hc, hf⟩ := bcell J
    go_wp2_with fail
    refine (sMeet_any _ _ _ _ _ _ _ _ _).mono ?_
    rw [e0]
    rintro e w1 ⟨rfl, J2⟩
    replace J := bw_trans J J2
    clear hc hf J2
    obtain ⟨hc, hf⟩ := bcell J
    go_wp2_with fail
    refine (sSeg_any _ _ _ _ _).mono ?_
    rw [gs]
    rintro e w1 ⟨rfl, J2⟩
    replace J := bw_trans J J2
    clear hc hf J2
    obtain ⟨hc, hf⟩ := bcell J
    go_wp2_with fail
    refine (sMeet_any _ _ _ _ _ _ _ _ _).mono ?_
    rw [e0]
    rintro e w1 ⟨rfl, J2⟩
    replace J := bw_trans J J2
    clear hc hf J2
    obtain ⟨hc, hf⟩ := bcell J
    go_wp2_with fail
    go_ret
    exact ⟨rfl, bw_trans BW J⟩
  · skip
    cases gt : sgB cx cy ex ey
    · have e0 : meetV ax ay bx b_y cx cy ex ey = false := by unfold meetV; rw [gs, gt]; rfl
      go_wp2_with fail
      refine (meet_any _ _ _ _ _ _ _ _ _).mono ?_
      rw [e0]
      rintro e w1 ⟨rfl, J⟩
      obtain ⟨hc, hf⟩ := bcell J
      go_wp2_with fail
      refine (sMeet_any _ _ _ _ _ _ _ _ _).mono ?_
      rw [e0]
      rintro e w1 ⟨rfl, J2⟩
      replace J := bw_trans J J2
      clear hc hf J2
      obtain ⟨hc, hf⟩ := bcell J
      go_wp2_with fail
      refine (sSeg_any _ _ _ _ _).mono ?_
      rw [gs]
      rintro e w1 ⟨rfl, J2⟩
      replace J := bw_trans J J2
      clear hc hf J2
      obtain ⟨hc, hf⟩ := bcell J
      go_wp2_with fail
      refine (sSeg_any _ _ _ _ _).mono ?_
      rw [gt]
      rintro e w1 ⟨rfl, J2⟩
      replace J := bw_trans J J2
      clear hc hf J2
      obtain ⟨hc, hf⟩ := bcell J
      go_wp2_with fail
      refine (sMeet_any _ _ _ _ _ _ _ _ _).mono ?_
      rw [e0]
      rintro e w1 ⟨rfl, J2⟩
      replace J := bw_trans J J2
      clear hc hf J2
      obtain ⟨hc, hf⟩ := bcell J
      go_wp2_with fail
      go_ret
      exact ⟨rfl, bw_trans BW J⟩
    · skip
      have e1 : meetV ax ay bx b_y cx cy ex ey = meetC ax ay bx b_y cx cy ex ey := by unfold meetV; rw [gs, gt]; rfl
      obtain ⟨pa, pb, _⟩ := sg_parts gs
      obtain ⟨pc, pd, _⟩ := sg_parts gt
      have eM : Hid (meetC ax ay bx b_y cx cy ex ey = _) := meet_alt ax ay bx b_y cx cy ex ey
      cases h0 : hasC ax ay bx b_y cx cy
      · cases h1 : hasC ax ay bx b_y ex ey
        · cases h2 : hasC cx cy ex ey ax ay
          · cases h3 : hasC cx cy ex ey bx b_y
            · have p1 := mul1_bd (tn_bd ax ay bx b_y cx cy) (tn_bd ax ay bx b_y ex ey)
              have p2 := mul1_bd (tn_bd cx cy ex ey ax ay) (tn_bd cx cy ex ey bx b_y)
              have eq : meetC ax ay bx b_y cx cy ex ey = (decide (tn ax ay bx b_y cx cy * tn ax ay bx b_y ex ey < 0) && decide (tn cx cy ex ey ax ay * tn cx cy ex ey bx b_y < 0)) := by rw [eM.out, h0, h1, h2, h3]; simp [splB]
              have EQ : Hid _ := eq
              clear eq
              have t1 := fun w => turn_ok ax ay bx b_y cx cy w pa pb pc
              have t2 := fun w => turn_ok ax ay bx b_y ex ey w pa pb pd
              have t3 := fun w => turn_ok cx cy ex ey ax ay w pc pd pa
              have t4 := fun w => turn_ok cx cy ex ey bx b_y w pc pd pb
              have T1 : Hid _ := t1
              have T2 : Hid _ := t2
              have T3 : Hid _ := t3
              have T4 : Hid _ := t4
              clear t1 t2 t3 t4
              generalize tn ax ay bx b_y cx cy = x1 at *
              generalize tn ax ay bx b_y ex ey = x2 at *
              generalize tn cx cy ex ey ax ay = x3 at *
              generalize tn cx cy ex ey bx b_y = x4 at *
              go_wp2_with fail
              refine (meet_any _ _ _ _ _ _ _ _ _).mono ?_
              rw [e1]
              rintro e w1 ⟨rfl, J⟩
              obtain ⟨hc, hf⟩ := bcell J
              go_wp2_with fail
              refine (sMeet_any _ _ _ _ _ _ _ _ _).mono ?_
              rw [e1]
              rintro e w1 ⟨rfl, J2⟩
              replace J := bw_trans J J2
              clear hc hf J2
              obtain ⟨hc, hf⟩ := bcell J
              go_wp2_with fail
              refine (sSeg_any _ _ _ _ _).mono ?_
              rw [gs]
              rintro e w1 ⟨rfl, J2⟩
              replace J := bw_trans J J2
              clear hc hf J2
              obtain ⟨hc, hf⟩ := bcell J
              go_wp2_with fail
              refine (sSeg_any _ _ _ _ _).mono ?_
              rw [gt]
              rintro e w1 ⟨rfl, J2⟩
              replace J := bw_trans J J2
              clear hc hf J2
              obtain ⟨hc, hf⟩ := bcell J
              go_wp2_with fail
              refine (has_ok _ _ _ _ _ _ _ gs pc).mono ?_
              rw [h0]
              rintro e w1 ⟨rfl, J2⟩
              replace J := bw_trans J J2
              clear hc hf J2
              obtain ⟨hc, hf⟩ := bcell J
              go_wp2_with fail
              refine (has_ok _ _ _ _ _ _ _ gs pd).mono ?_
              rw [h1]
              rintro e w1 ⟨rfl, J2⟩
              replace J := bw_trans J J2
              clear hc hf J2
              obtain ⟨hc, hf⟩ := bcell J
              go_wp2_with fail
              refine (has_ok _ _ _ _ _ _ _ gt pa).mono ?_
              rw [h2]
              rintro e w1 ⟨rfl, J2⟩
              replace J := bw_trans J J2
              clear hc hf J2
              obtain ⟨hc, hf⟩ := bcell J
              go_wp2_with fail
              refine (has_ok _ _ _ _ _ _ _ gt pb).mono ?_
              rw [h3]
              rintro e w1 ⟨rfl, J2⟩
              replace J := bw_trans J J2
              clear hc hf J2
              obtain ⟨hc, hf⟩ := bcell J
              go_upto_region 9 with fail
              have U := keep J S
              have V := keep J T
              replace BW := bw_trans BW J
              clear hc hf J S T zS zT fS0 fS1 fS2 fS3 fT0 fT1 fT2 fT3
              obtain ⟨u0, u1, u2, u3⟩ := reg_4 U
              obtain ⟨v0, v1, v2, v3⟩ := reg_4 V
              refine wp_region_quiet_below (by kernel_rfl) (by kernel_rfl) ?_
              repeat (first | go_big_quiet_step (first | (go_at_call 26; with_reducible exact Calls.regrown_of (T1.out _)) | (go_at_call 26; with_reducible exact Calls.regrown_of (T2.out _))))
              refine wpQuiet_nil ?_
              intro _ hw'
              obtain ⟨⟨dq, osq⟩, hw''⟩ := hw'
              subst hw''
              have J := below_regrown w1 dq osq
              generalize grow (redrawn w1 dq) osq = w2 at J ⊢
              replace BW := bw_trans BW J
              clear u0 u1 u2 u3 v0 v1 v2 v3
              replace U := keep J U
              replace V := keep J V
              clear J
              obtain ⟨u0, u1, u2, u3⟩ := reg_4 U
              obtain ⟨v0, v1, v2, v3⟩ := reg_4 V
              go_upto_region 10 with fail
              refine wp_region_quiet_below (by kernel_rfl) (by kernel_rfl) ?_
              repeat (first | go_big_quiet_step (first | (go_at_call 26; with_reducible exact Calls.regrown_of (T3.out _)) | (go_at_call 26; with_reducible exact Calls.regrown_of (T4.out _))))
              refine wpQuiet_nil ?_
              intro _ hw'
              obtain ⟨⟨dq, osq⟩, hw''⟩ := hw'
              subst hw''
              have J := below_regrown w2 dq osq
              generalize grow (redrawn w2 dq) osq = w3 at J ⊢
              by_cases hA : x1 * x2 < 0
              · by_cases hB : x3 * x4 < 0
                · have eq := EQ.out
                  rw [decide_eq_true hA, decide_eq_true hB] at eq
                  rw [eq]
                  go_wp2_with fail
                  go_ret
                  exact ⟨rfl, bw_trans BW J⟩
                · have eq := EQ.out
                  rw [decide_eq_true hA, decide_eq_false hB] at eq
                  rw [eq]
                  go_wp2_with fail
                  go_ret
                  exact ⟨rfl, bw_trans BW J⟩
              · have eq := EQ.out
                rw [decide_eq_false hA] at eq
                simp only [Bool.false_and] at eq
                rw [eq]
                go_wp2_with fail
                go_ret
                exact ⟨rfl, bw_trans BW J⟩
            · have e2 : meetC ax ay bx b_y cx cy ex ey = true := by rw [eM.out, h0, h1, h2, h3]; simp
              rw [e2] at e1
              clear e2
              go_wp2_with fail
              refine (meet_any _ _ _ _ _ _ _ _ _).mono ?_
              rw [e1]
              rintro e w1 ⟨rfl, J⟩
              obtain ⟨hc, hf⟩ := bcell J
              go_wp2_with fail
              refine (sMeet_any _ _ _ _ _ _ _ _ _).mono ?_
              rw [e1]
              rintro e w1 ⟨rfl, J2⟩
              replace J := bw_trans J J2
              clear hc hf J2
              obtain ⟨hc, hf⟩ := bcell J
              go_wp2_with fail
              refine (sSeg_any _ _ _ _ _).mono ?_
              rw [gs]
              rintro e w1 ⟨rfl, J2⟩
              replace J := bw_trans J J2
              clear hc hf J2
              obtain ⟨hc, hf⟩ := bcell J
              go_wp2_with fail
              refine (sSeg_any _ _ _ _ _).mono ?_
              rw [gt]
              rintro e w1 ⟨rfl, J2⟩
              replace J := bw_trans J J2
              clear hc hf J2
              obtain ⟨hc, hf⟩ := bcell J
              go_wp2_with fail
              refine (has_ok _ _ _ _ _ _ _ gs pc).mono ?_
              rw [h0]
              rintro e w1 ⟨rfl, J2⟩
              replace J := bw_trans J J2
              clear hc hf J2
              obtain ⟨hc, hf⟩ := bcell J
              go_wp2_with fail
              refine (has_ok _ _ _ _ _ _ _ gs pd).mono ?_
              rw [h1]
              rintro e w1 ⟨rfl, J2⟩
              replace J := bw_trans J J2
              clear hc hf J2
              obtain ⟨hc, hf⟩ := bcell J
              go_wp2_with fail
              refine (has_ok _ _ _ _ _ _ _ gt pa).mono ?_
              rw [h2]
              rintro e w1 ⟨rfl, J2⟩
              replace J := bw_trans J J2
              clear hc hf J2
              obtain ⟨hc, hf⟩ := bcell J
              go_wp2_with fail
              refine (has_ok _ _ _ _ _ _ _ gt pb).mono ?_
              rw [h3]
              rintro e w1 ⟨rfl, J2⟩
              replace J := bw_trans J J2
              clear hc hf J2
              obtain ⟨hc, hf⟩ := bcell J
              go_wp2_with fail
              go_ret
              exact ⟨rfl, bw_trans BW J⟩
          · have e2 : meetC ax ay bx b_y cx cy ex ey = true := by rw [eM.out, h0, h1, h2]; simp
            rw [e2] at e1
            clear e2
            go_wp2_with fail
            refine (meet_any _ _ _ _ _ _ _ _ _).mono ?_
            rw [e1]
            rintro e w1 ⟨rfl, J⟩
            obtain ⟨hc, hf⟩ := bcell J
            go_wp2_with fail
            refine (sMeet_any _ _ _ _ _ _ _ _ _).mono ?_
            rw [e1]
            rintro e w1 ⟨rfl, J2⟩
            replace J := bw_trans J J2
            clear hc hf J2
            obtain ⟨hc, hf⟩ := bcell J
            go_wp2_with fail
            refine (sSeg_any _ _ _ _ _).mono ?_
            rw [gs]
            rintro e w1 ⟨rfl, J2⟩
            replace J := bw_trans J J2
            clear hc hf J2
            obtain ⟨hc, hf⟩ := bcell J
            go_wp2_with fail
            refine (sSeg_any _ _ _ _ _).mono ?_
            rw [gt]
            rintro e w1 ⟨rfl, J2⟩
            replace J := bw_trans J J2
            clear hc hf J2
            obtain ⟨hc, hf⟩ := bcell J
            go_wp2_with fail
            refine (has_ok _ _ _ _ _ _ _ gs pc).mono ?_
            rw [h0]
            rintro e w1 ⟨rfl, J2⟩
            replace J := bw_trans J J2
            clear hc hf J2
            obtain ⟨hc, hf⟩ := bcell J
            go_wp2_with fail
            refine (has_ok _ _ _ _ _ _ _ gs pd).mono ?_
            rw [h1]
            rintro e w1 ⟨rfl, J2⟩
            replace J := bw_trans J J2
            clear hc hf J2
            obtain ⟨hc, hf⟩ := bcell J
            go_wp2_with fail
            refine (has_ok _ _ _ _ _ _ _ gt pa).mono ?_
            rw [h2]
            rintro e w1 ⟨rfl, J2⟩
            replace J := bw_trans J J2
            clear hc hf J2
            obtain ⟨hc, hf⟩ := bcell J
            go_wp2_with fail
            go_ret
            exact ⟨rfl, bw_trans BW J⟩
        · have e2 : meetC ax ay bx b_y cx cy ex ey = true := by rw [eM.out, h0, h1]; simp
          rw [e2] at e1
          clear e2
          go_wp2_with fail
          refine (meet_any _ _ _ _ _ _ _ _ _).mono ?_
          rw [e1]
          rintro e w1 ⟨rfl, J⟩
          obtain ⟨hc, hf⟩ := bcell J
          go_wp2_with fail
          refine (sMeet_any _ _ _ _ _ _ _ _ _).mono ?_
          rw [e1]
          rintro e w1 ⟨rfl, J2⟩
          replace J := bw_trans J J2
          clear hc hf J2
          obtain ⟨hc, hf⟩ := bcell J
          go_wp2_with fail
          refine (sSeg_any _ _ _ _ _).mono ?_
          rw [gs]
          rintro e w1 ⟨rfl, J2⟩
          replace J := bw_trans J J2
          clear hc hf J2
          obtain ⟨hc, hf⟩ := bcell J
          go_wp2_with fail
          refine (sSeg_any _ _ _ _ _).mono ?_
          rw [gt]
          rintro e w1 ⟨rfl, J2⟩
          replace J := bw_trans J J2
          clear hc hf J2
          obtain ⟨hc, hf⟩ := bcell J
          go_wp2_with fail
          refine (has_ok _ _ _ _ _ _ _ gs pc).mono ?_
          rw [h0]
          rintro e w1 ⟨rfl, J2⟩
          replace J := bw_trans J J2
          clear hc hf J2
          obtain ⟨hc, hf⟩ := bcell J
          go_wp2_with fail
          refine (has_ok _ _ _ _ _ _ _ gs pd).mono ?_
          rw [h1]
          rintro e w1 ⟨rfl, J2⟩
          replace J := bw_trans J J2
          clear hc hf J2
          obtain ⟨hc, hf⟩ := bcell J
          go_wp2_with fail
          go_ret
          exact ⟨rfl, bw_trans BW J⟩
      · have e2 : meetC ax ay bx b_y cx cy ex ey = true := by rw [eM.out, h0]; simp
        rw [e2] at e1
        clear e2
        go_wp2_with fail
        refine (meet_any _ _ _ _ _ _ _ _ _).mono ?_
        rw [e1]
        rintro e w1 ⟨rfl, J⟩
        obtain ⟨hc, hf⟩ := bcell J
        go_wp2_with fail
        refine (sMeet_any _ _ _ _ _ _ _ _ _).mono ?_
        rw [e1]
        rintro e w1 ⟨rfl, J2⟩
        replace J := bw_trans J J2
        clear hc hf J2
        obtain ⟨hc, hf⟩ := bcell J
        go_wp2_with fail
        refine (sSeg_any _ _ _ _ _).mono ?_
        rw [gs]
        rintro e w1 ⟨rfl, J2⟩
        replace J := bw_trans J J2
        clear hc hf J2
        obtain ⟨hc, hf⟩ := bcell J
        go_wp2_with fail
        refine (sSeg_any _ _ _ _ _).mono ?_
        rw [gt]
        rintro e w1 ⟨rfl, J2⟩
        replace J := bw_trans J J2
        clear hc hf J2
        obtain ⟨hc, hf⟩ := bcell J
        go_wp2_with fail
        refine (has_ok _ _ _ _ _ _ _ gs pc).mono ?_
        rw [h0]
        rintro e w1 ⟨rfl, J2⟩
        replace J := bw_trans J J2
        clear hc hf J2
        obtain ⟨hc, hf⟩ := bcell J
        go_wp2_with fail
        go_ret
        exact ⟨rfl, bw_trans BW J⟩
end Go.Proofs.Ytmjbfocghlhecaa
