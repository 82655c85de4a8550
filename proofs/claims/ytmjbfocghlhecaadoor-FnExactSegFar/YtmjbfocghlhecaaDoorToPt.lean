/-
  OUR OWN TEXT. From a point or segment of the laws to one of the program, by contract.
-/
import Derived.Test.YtmjbfocghlhecaaDoorBoxes
namespace Go.Proofs.YtmjbfocghlhecaaDoor
open Go.RowKit

theorem toPt_exact (n d : Int) (w : World) :
    Calls Tryd.prog 38 #[.agg #[.int .i64 n, .int .i64 d]] w fun e w' => e = .returned (.agg #[.int .i64 n, .int .i64 d]) ∧ w' = ((w.alloc (.cells #[.int .i64 n, .int .i64 d] 51)).alloc (.cells #[.int .i64 n, .int .i64 d] 24)).alloc (.cells #[.int .i64 n, .int .i64 d] 24) := by
  go_enter Tryd.func38, Tryd.ntmps38
  go_wp2
  exact bodyPost_ret (v := .agg #[.int .i64 n, .int .i64 d]) (by simp [results, Tryd.results38, go_sem]) rfl ⟨rfl, rfl⟩
theorem toPt_any (n d : Int) (w : World) :
    Calls Tryd.prog 38 #[.agg #[.int .i64 n, .int .i64 d]] w fun e w' => e = .returned (.agg #[.int .i64 n, .int .i64 d]) ∧ Below w.heap.size w w' :=
  (toPt_exact n d w).mono fun _ _ h => ⟨h.1, h.2 ▸ (by repeat (first | exact bw_refl _ | assumption | apply bw_drewN | apply bw_drew | apply bw_alloc | refine bw_set ?_ (by simp) _))⟩
set_option maxHeartbeats 400000 in
theorem toSeg_any (a b c d : Int) (w : World) :
    Calls Tryd.prog 37 #[.agg #[.int .i64 a, .int .i64 b, .int .i64 c, .int .i64 d]] w fun e w' => e = .returned (.agg #[.int .i64 a, .int .i64 b, .int .i64 c, .int .i64 d]) ∧ Below w.heap.size w w' := by
  go_enter Tryd.func37, Tryd.ntmps37
  go_wp2_with (go_at_call 38; refine (toPt_exact _ _ _).mono ?_; rintro e w' ⟨rfl, rfl⟩)
  exact bodyPost_ret (v := .agg #[.int .i64 a, .int .i64 b, .int .i64 c, .int .i64 d]) (by simp [results, Tryd.results37, go_sem]) rfl ⟨rfl, (by repeat (first | exact bw_refl _ | assumption | apply bw_drewN | apply bw_drew | apply bw_alloc | refine bw_set ?_ (by simp) _))⟩
end Go.Proofs.YtmjbfocghlhecaaDoor
