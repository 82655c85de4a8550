/-
  OUR OWN TEXT. An edge that passes to the right of a point, by contract.
-/
import Derived.Test.YtfnhbdanfnpdeaaDoorFree
import Derived.Test.YtfnhbdanfnpdeaaDoorLoopS
import Derived.Deep.RegionHeld3
namespace Go.Proofs.YtfnhbdanfnpdeaaDoor
open Go.RowKit Go.Sort

theorem tn_pos (ax ay bx b_y cx cy : Int) : 0 < tn ax ay bx b_y cx cy ↔ 0 < crs ax ay bx b_y cx cy := by
  unfold tn cmpI; split
  · omega
  · split <;> omega
theorem turn_raw (a b c : P2) (ha : ptB a.1 a.2 = true) (hb : ptB b.1 b.2 = true) (hc : ptB c.1 c.2 = true) (w : World) :
    Calls Tryd.prog 98 #[.agg #[.int .i64 a.1, .int .i64 a.2], .agg #[.int .i64 b.1, .int .i64 b.2], .agg #[.int .i64 c.1, .int .i64 c.2]] w fun e w' => e = .returned (.int .i64 (tn a.1 a.2 b.1 b.2 c.1 c.2)) ∧ Below w.heap.size w w' := turn_ok _ _ _ _ _ _ w ha hb hc
set_option maxRecDepth 100000 in
set_option maxHeartbeats 4000000 in
theorem pass_ok (a b p : P2) (ha : ptB a.1 a.2 = true) (hb : ptB b.1 b.2 = true) (hp : ptB p.1 p.2 = true) (w : World) :
    Calls Tryd.prog 77 #[.agg #[.int .i64 a.1, .int .i64 a.2, .int .i64 b.1, .int .i64 b.2], .agg #[.int .i64 p.1, .int .i64 p.2]] w fun e w' => e = .returned (.bool (passP a b p)) ∧ Below w.heap.size w w' := by
  by_cases hgt : b.2 < a.2
  · have e1 : Hid (passP a b p = (decide (b.2 ≤ p.2) && decide (p.2 < a.2) && decide (0 < tn b.1 b.2 a.1 a.2 p.1 p.2))) := by
      change _ = _; unfold passP; rw [if_pos hgt, decide_eq_decide.2 (tn_pos b.1 b.2 a.1 a.2 p.1 p.2)]
    by_cases c1 : b.2 ≤ p.2
    · by_cases c2 : p.2 < a.2
      · have e2 : Hid (passP a b p = decide (0 < tn b.1 b.2 a.1 a.2 p.1 p.2)) := by change _ = _; rw [e1.out, decide_eq_true c1, decide_eq_true c2]; rfl
        go_enter Tryd.func77, Tryd.ntmps77
        go_wp2_with fail
        go_region
        all_goals (go_wp2_with (go_at_call 98; refine (turn_raw _ _ _ hb ha hp _).mono ?_; rintro e w1 ⟨rfl, J⟩))
        all_goals go_ret
        all_goals exact ⟨ret_bool e2.out.symm, bw_trans (by repeat (first | exact bw_refl _ | assumption | apply bw_drewN | apply bw_drew | apply bw_alloc | refine bw_set ?_ (by simp) _)) J⟩
      · have e2 : Hid (passP a b p = false) := by change _ = _; rw [e1.out, decide_eq_true c1, decide_eq_false c2]; rfl
        go_enter Tryd.func77, Tryd.ntmps77
        go_wp2_with fail
        go_region
        all_goals go_wp2_with fail
        all_goals go_ret
        all_goals exact ⟨ret_bool e2.out.symm, (by repeat (first | exact bw_refl _ | assumption | apply bw_drewN | apply bw_drew | apply bw_alloc | refine bw_set ?_ (by simp) _))⟩
    · have e2 : Hid (passP a b p = false) := by change _ = _; rw [e1.out, decide_eq_false c1]; rfl
      go_enter Tryd.func77, Tryd.ntmps77
      go_wp2_with fail
      go_region
      all_goals go_wp2_with fail
      all_goals go_ret
      all_goals exact ⟨ret_bool e2.out.symm, (by repeat (first | exact bw_refl _ | assumption | apply bw_drewN | apply bw_drew | apply bw_alloc | refine bw_set ?_ (by simp) _))⟩
  · have e1 : Hid (passP a b p = (decide (a.2 ≤ p.2) && decide (p.2 < b.2) && decide (0 < tn a.1 a.2 b.1 b.2 p.1 p.2))) := by
      change _ = _; unfold passP; rw [if_neg hgt, decide_eq_decide.2 (tn_pos a.1 a.2 b.1 b.2 p.1 p.2)]
    by_cases c1 : a.2 ≤ p.2
    · by_cases c2 : p.2 < b.2
      · have e2 : Hid (passP a b p = decide (0 < tn a.1 a.2 b.1 b.2 p.1 p.2)) := by change _ = _; rw [e1.out, decide_eq_true c1, decide_eq_true c2]; rfl
        go_enter Tryd.func77, Tryd.ntmps77
        go_wp2_with fail
        go_region
        all_goals (go_wp2_with (go_at_call 98; refine (turn_raw _ _ _ ha hb hp _).mono ?_; rintro e w1 ⟨rfl, J⟩))
        all_goals go_ret
        all_goals exact ⟨ret_bool e2.out.symm, bw_trans (by repeat (first | exact bw_refl _ | assumption | apply bw_drewN | apply bw_drew | apply bw_alloc | refine bw_set ?_ (by simp) _)) J⟩
      · have e2 : Hid (passP a b p = false) := by change _ = _; rw [e1.out, decide_eq_true c1, decide_eq_false c2]; rfl
        go_enter Tryd.func77, Tryd.ntmps77
        go_wp2_with fail
        go_region
        all_goals go_wp2_with fail
        all_goals go_ret
        all_goals exact ⟨ret_bool e2.out.symm, (by repeat (first | exact bw_refl _ | assumption | apply bw_drewN | apply bw_drew | apply bw_alloc | refine bw_set ?_ (by simp) _))⟩
    · have e2 : Hid (passP a b p = false) := by change _ = _; rw [e1.out, decide_eq_false c1]; rfl
      go_enter Tryd.func77, Tryd.ntmps77
      go_wp2_with fail
      go_region
      all_goals go_wp2_with fail
      all_goals go_ret
      all_goals exact ⟨ret_bool e2.out.symm, (by repeat (first | exact bw_refl _ | assumption | apply bw_drewN | apply bw_drew | apply bw_alloc | refine bw_set ?_ (by simp) _))⟩
end Go.Proofs.YtfnhbdanfnpdeaaDoor
