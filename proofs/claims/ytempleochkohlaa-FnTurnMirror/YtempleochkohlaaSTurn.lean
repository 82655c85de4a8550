/-
  OUR OWN TEXT. The specification's turning, by contract, at every three points.
-/
import Derived.Test.YtempleochkohlaaTurn
namespace Go.Proofs.Ytempleochkohlaa
open Go.RowKit

theorem sTurn_any (ax ay bx b_y cx cy : Int) (w : World) :
    Calls Try.prog 15 #[.agg #[.int .i64 ax, .int .i64 ay], .agg #[.int .i64 bx, .int .i64 b_y], .agg #[.int .i64 cx, .int .i64 cy]] w fun e w' => e = .returned (.int .i64 (turnV ax ay bx b_y cx cy)) ∧ Below w.heap.size w w' := by
  cases ha : ptB ax ay
  · have e1 : Hid (turnV ax ay bx b_y cx cy = 0) := by unfold turnV; rw [ha]; rfl
    go_enter Try.func15, Try.ntmps15
    go_wp2_with fail
    refine (sPt_any _ _ _).mono ?_
    rw [ha]
    rintro e w1 ⟨rfl, J⟩
    obtain ⟨hc, hf⟩ := bcell J
    go_wp2_with fail
    go_ret
    exact ⟨ret_int e1.out.symm, bw_trans (by repeat (first | exact bw_refl _ | assumption | apply bw_drewN | apply bw_drew | apply bw_alloc | refine bw_set ?_ (by simp) _)) J⟩
  · cases hb : ptB bx b_y
    · have e1 : Hid (turnV ax ay bx b_y cx cy = 0) := by unfold turnV; rw [ha, hb]; rfl
      go_enter Try.func15, Try.ntmps15
      go_wp2_with fail
      refine (sPt_any _ _ _).mono ?_
      rw [ha]
      rintro e w1 ⟨rfl, J⟩
      obtain ⟨hc, hf⟩ := bcell J
      go_wp2_with fail
      refine (sPt_any _ _ _).mono ?_
      rw [hb]
      rintro e w1 ⟨rfl, J2⟩
      replace J := bw_trans J J2
      clear hc hf J2
      obtain ⟨hc, hf⟩ := bcell J
      go_wp2_with fail
      go_ret
      exact ⟨ret_int e1.out.symm, bw_trans (by repeat (first | exact bw_refl _ | assumption | apply bw_drewN | apply bw_drew | apply bw_alloc | refine bw_set ?_ (by simp) _)) J⟩
    · cases hd : ptB cx cy
      · have e1 : Hid (turnV ax ay bx b_y cx cy = 0) := by unfold turnV; rw [ha, hb, hd]; rfl
        go_enter Try.func15, Try.ntmps15
        go_wp2_with fail
        refine (sPt_any _ _ _).mono ?_
        rw [ha]
        rintro e w1 ⟨rfl, J⟩
        obtain ⟨hc, hf⟩ := bcell J
        go_wp2_with fail
        refine (sPt_any _ _ _).mono ?_
        rw [hb]
        rintro e w1 ⟨rfl, J2⟩
        replace J := bw_trans J J2
        clear hc hf J2
        obtain ⟨hc, hf⟩ := bcell J
        go_wp2_with fail
        refine (sPt_any _ _ _).mono ?_
        rw [hd]
        rintro e w1 ⟨rfl, J2⟩
        replace J := bw_trans J J2
        clear hc hf J2
        obtain ⟨hc, hf⟩ := bcell J
        go_wp2_with fail
        go_ret
        exact ⟨ret_int e1.out.symm, bw_trans (by repeat (first | exact bw_refl _ | assumption | apply bw_drewN | apply bw_drew | apply bw_alloc | refine bw_set ?_ (by simp) _)) J⟩
      · have e1 : Hid (turnV ax ay bx b_y cx cy = tn ax ay bx b_y cx cy) := by unfold turnV; rw [ha, hb, hd]; rfl
        go_enter Try.func15, Try.ntmps15
        go_wp2_with fail
        refine (sPt_any _ _ _).mono ?_
        rw [ha]
        rintro e w1 ⟨rfl, J⟩
        obtain ⟨hc, hf⟩ := bcell J
        go_wp2_with fail
        refine (sPt_any _ _ _).mono ?_
        rw [hb]
        rintro e w1 ⟨rfl, J2⟩
        replace J := bw_trans J J2
        clear hc hf J2
        obtain ⟨hc, hf⟩ := bcell J
        go_wp2_with fail
        refine (sPt_any _ _ _).mono ?_
        rw [hd]
        rintro e w1 ⟨rfl, J2⟩
        replace J := bw_trans J J2
        clear hc hf J2
        obtain ⟨hc, hf⟩ := bcell J
        go_wp2_with fail
        refine (sCross_any _ _ _ _ _ _ _ ha hb hd).mono ?_
        rintro e w1 ⟨rfl, J2⟩
        replace J := bw_trans J J2
        clear hc hf J2
        obtain ⟨hc, hf⟩ := bcell J
        go_wp2_with fail
        refine (sSign_any _ _).mono ?_
        rintro e w1 ⟨rfl, J2⟩
        replace J := bw_trans J J2
        clear hc hf J2
        obtain ⟨hc, hf⟩ := bcell J
        go_wp2_with fail
        go_ret
        exact ⟨ret_int e1.out.symm, bw_trans (by repeat (first | exact bw_refl _ | assumption | apply bw_drewN | apply bw_drew | apply bw_alloc | refine bw_set ?_ (by simp) _)) J⟩
end Go.Proofs.Ytempleochkohlaa
