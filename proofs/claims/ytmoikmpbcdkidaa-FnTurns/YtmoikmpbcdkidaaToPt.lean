/-
  OUR OWN TEXT. From a point or segment of the laws to one of the program, by contract.
-/
import Derived.Test.YtmoikmpbcdkidaaBoxes
namespace Go.Proofs.Ytmoikmpbcdkidaa
open Go.RowKit

theorem toPt_exact (n d : Int) (w : World) :
    Calls Try.prog 44 #[.agg #[.int .i64 n, .int .i64 d]] w fun e w' => e = .returned (.agg #[.int .i64 n, .int .i64 d]) ∧ w' = ((w.alloc (.cells #[.int .i64 n, .int .i64 d] 53)).alloc (.cells #[.int .i64 n, .int .i64 d] 30)).alloc (.cells #[.int .i64 n, .int .i64 d] 30) := by
  go_enter Try.func44, Try.ntmps44
  go_wp2
  exact bodyPost_ret (v := .agg #[.int .i64 n, .int .i64 d]) (by simp [results, Try.results44, go_sem]) rfl ⟨rfl, rfl⟩
theorem toPt_any (n d : Int) (w : World) :
    Calls Try.prog 44 #[.agg #[.int .i64 n, .int .i64 d]] w fun e w' => e = .returned (.agg #[.int .i64 n, .int .i64 d]) ∧ Below w.heap.size w w' :=
  (toPt_exact n d w).mono fun _ _ h => ⟨h.1, h.2 ▸ (by repeat (first | exact bw_refl _ | assumption | apply bw_drewN | apply bw_drew | apply bw_alloc | refine bw_set ?_ (by simp) _))⟩
end Go.Proofs.Ytmoikmpbcdkidaa
