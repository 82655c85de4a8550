/-
  OUR OWN TEXT. From a point or segment of the laws to one of the program, by contract.
-/
import Derived.Test.YtfdnadiliedikaaDoorBoxes
namespace Go.Proofs.YtfdnadiliedikaaDoor
open Go.RowKit

theorem toPt_exact (n d : Int) (w : World) :
    Calls Tryd.prog 49 #[.agg #[.int .i64 n, .int .i64 d]] w fun e w' => e = .returned (.agg #[.int .i64 n, .int .i64 d]) ∧ w' = ((w.alloc (.cells #[.int .i64 n, .int .i64 d] 72)).alloc (.cells #[.int .i64 n, .int .i64 d] 42)).alloc (.cells #[.int .i64 n, .int .i64 d] 42) := by
  go_enter Tryd.func49, Tryd.ntmps49
  go_wp2
  exact bodyPost_ret (v := .agg #[.int .i64 n, .int .i64 d]) (by simp [results, Tryd.results49, go_sem]) rfl ⟨rfl, rfl⟩
theorem toPt_any (n d : Int) (w : World) :
    Calls Tryd.prog 49 #[.agg #[.int .i64 n, .int .i64 d]] w fun e w' => e = .returned (.agg #[.int .i64 n, .int .i64 d]) ∧ Below w.heap.size w w' :=
  (toPt_exact n d w).mono fun _ _ h => ⟨h.1, h.2 ▸ (by repeat (first | exact bw_refl _ | assumption | apply bw_drewN | apply bw_drew | apply bw_alloc | refine bw_set ?_ (by simp) _))⟩
end Go.Proofs.YtfdnadiliedikaaDoor
