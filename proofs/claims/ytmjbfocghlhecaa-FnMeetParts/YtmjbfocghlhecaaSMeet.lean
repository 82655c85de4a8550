/-
  OUR OWN TEXT. The specification's meeting, by contract, at every two segments.
-/
import Derived.Test.YtmjbfocghlhecaaSHas
namespace Go.Proofs.Ytmjbfocghlhecaa
open Go.RowKit

theorem sMeet_any (ax ay bx b_y cx cy ex ey : Int) (w : World) :
    Calls Try.prog 33 #[.agg #[.int .i64 ax, .int .i64 ay, .int .i64 bx, .int .i64 b_y], .agg #[.int .i64 cx, .int .i64 cy, .int .i64 ex, .int .i64 ey]] w fun e w' => e = .returned (.bool (meetV ax ay bx b_y cx cy ex ey)) ∧ Below w.heap.size w w' := by
  cases hs : sgB ax ay bx b_y
  · have e1 : Hid (meetV ax ay bx b_y cx cy ex ey = false) := by unfold meetV; rw [hs]; rfl
    go_enter Try.func33, Try.ntmps33
    go_wp2_with fail
    refine (sSeg_any _ _ _ _ _).mono ?_
    rw [hs]
    rintro e w1 ⟨rfl, J⟩
    obtain ⟨hc, hf⟩ := bcell J
    go_wp2_with fail
    go_ret
    exact ⟨ret_bool e1.out.symm, bw_trans (by repeat (first | exact bw_refl _ | assumption | apply bw_drewN | apply bw_drew | apply bw_alloc | refine bw_set ?_ (by simp) _)) J⟩
  · cases ht : sgB cx cy ex ey
    · have e1 : Hid (meetV ax ay bx b_y cx cy ex ey = false) := by unfold meetV; rw [hs, ht]; rfl
      go_enter Try.func33, Try.ntmps33
      go_wp2_with fail
      refine (sSeg_any _ _ _ _ _).mono ?_
      rw [hs]
      rintro e w1 ⟨rfl, J⟩
      obtain ⟨hc, hf⟩ := bcell J
      go_wp2_with fail
      refine (sSeg_any _ _ _ _ _).mono ?_
      rw [ht]
      rintro e w1 ⟨rfl, J2⟩
      replace J := bw_trans J J2
      clear hc hf J2
      obtain ⟨hc, hf⟩ := bcell J
      go_wp2_with fail
      go_ret
      exact ⟨ret_bool e1.out.symm, bw_trans (by repeat (first | exact bw_refl _ | assumption | apply bw_drewN | apply bw_drew | apply bw_alloc | refine bw_set ?_ (by simp) _)) J⟩
    · have e1 : Hid (meetV ax ay bx b_y cx cy ex ey = meetC ax ay bx b_y cx cy ex ey) := by unfold meetV; rw [hs, ht]; rfl
      go_enter Try.func33, Try.ntmps33
      go_wp2_with fail
      refine (sSeg_any _ _ _ _ _).mono ?_
      rw [hs]
      rintro e w1 ⟨rfl, J⟩
      obtain ⟨hc, hf⟩ := bcell J
      go_wp2_with fail
      refine (sSeg_any _ _ _ _ _).mono ?_
      rw [ht]
      rintro e w1 ⟨rfl, J2⟩
      replace J := bw_trans J J2
      clear hc hf J2
      obtain ⟨hc, hf⟩ := bcell J
      go_wp2_with fail
      refine (sMeet_ok _ _ _ _ _ _ _ _ _ hs ht).mono ?_
      rintro e w1 ⟨rfl, J2⟩
      replace J := bw_trans J J2
      clear hc hf J2
      obtain ⟨hc, hf⟩ := bcell J
      go_wp2_with fail
      go_ret
      exact ⟨ret_bool e1.out.symm, bw_trans (by repeat (first | exact bw_refl _ | assumption | apply bw_drewN | apply bw_drew | apply bw_alloc | refine bw_set ?_ (by simp) _)) J⟩
end Go.Proofs.Ytmjbfocghlhecaa
