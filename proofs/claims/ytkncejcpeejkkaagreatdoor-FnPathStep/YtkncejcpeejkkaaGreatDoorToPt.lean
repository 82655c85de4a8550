/-
  OUR OWN TEXT. From a point or segment of the laws to one of the program, by contract.
-/
import Derived.Test.YtkncejcpeejkkaaGreatDoorBoxes
namespace Go.Proofs.YtkncejcpeejkkaaGreatDoor
open Go.RowKit

theorem toPt_exact (n d : Int) (w : World) :
    Calls Tryz.prog 26 #[.agg #[.int .i64 n, .int .i64 d]] w fun e w' => e = .returned (.agg #[.int .i64 n, .int .i64 d]) ∧ w' = ((w.alloc (.cells #[.int .i64 n, .int .i64 d] 58)).alloc (.cells #[.int .i64 n, .int .i64 d] 43)).alloc (.cells #[.int .i64 n, .int .i64 d] 43) := by
  go_enter Tryz.func26, Tryz.ntmps26
  go_wp2
  exact bodyPost_ret (v := .agg #[.int .i64 n, .int .i64 d]) (by simp [results, Tryz.results26, go_sem]) rfl ⟨rfl, rfl⟩
theorem toPt_any (n d : Int) (w : World) :
    Calls Tryz.prog 26 #[.agg #[.int .i64 n, .int .i64 d]] w fun e w' => e = .returned (.agg #[.int .i64 n, .int .i64 d]) ∧ Below w.heap.size w w' :=
  (toPt_exact n d w).mono fun _ _ h => ⟨h.1, h.2 ▸ (by repeat (first | exact bw_refl _ | assumption | apply bw_drewN | apply bw_drew | apply bw_alloc | refine bw_set ?_ (by simp) _))⟩
end Go.Proofs.YtkncejcpeejkkaaGreatDoor
