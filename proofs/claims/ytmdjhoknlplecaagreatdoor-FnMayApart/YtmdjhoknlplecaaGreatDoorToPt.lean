/-
  OUR OWN TEXT. From a point or segment of the laws to one of the program, by contract.
-/
import Derived.Test.YtmdjhoknlplecaaGreatDoorBoxes
namespace Go.Proofs.YtmdjhoknlplecaaGreatDoor
open Go.RowKit

theorem toPt_exact (n d : Int) (w : World) :
    Calls Tryz.prog 14 #[.agg #[.int .i64 n, .int .i64 d]] w fun e w' => e = .returned (.agg #[.int .i64 n, .int .i64 d]) ∧ w' = ((w.alloc (.cells #[.int .i64 n, .int .i64 d] 27)).alloc (.cells #[.int .i64 n, .int .i64 d] 35)).alloc (.cells #[.int .i64 n, .int .i64 d] 35) := by
  go_enter Tryz.func14, Tryz.ntmps14
  go_wp2
  exact bodyPost_ret (v := .agg #[.int .i64 n, .int .i64 d]) (by simp [results, Tryz.results14, go_sem]) rfl ⟨rfl, rfl⟩
theorem toPt_any (n d : Int) (w : World) :
    Calls Tryz.prog 14 #[.agg #[.int .i64 n, .int .i64 d]] w fun e w' => e = .returned (.agg #[.int .i64 n, .int .i64 d]) ∧ Below w.heap.size w w' :=
  (toPt_exact n d w).mono fun _ _ h => ⟨h.1, h.2 ▸ (by repeat (first | exact bw_refl _ | assumption | apply bw_drewN | apply bw_drew | apply bw_alloc | refine bw_set ?_ (by simp) _))⟩
end Go.Proofs.YtmdjhoknlplecaaGreatDoor
