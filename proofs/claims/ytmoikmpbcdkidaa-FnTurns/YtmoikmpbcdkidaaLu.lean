/-
  OUR OWN TEXT. Points and segments on the other side, exchanged, and the other way about, by contract.
-/
import Derived.Test.YtmoikmpbcdkidaaBoxes
import Derived.Test.YtmoikmpbcdkidaaGeo
namespace Go.Proofs.Ytmoikmpbcdkidaa
open Go.RowKit

theorem boxes1 (w : World) (o : Obj) : ∃ W, W = w.alloc o ∧ Below w.heap.size w W ∧ W.heap[w.heap.size]? = some o := ⟨_, rfl, (by repeat (first | exact bw_refl _ | assumption | apply bw_drewN | apply bw_drew | apply bw_alloc | refine bw_set ?_ (by simp) _)), heap_new _ _⟩
theorem luMirror_ok (x y : Int) (w : World) (h : ptB x y = true) :
    Calls Try.prog 54 #[.agg #[.int .i64 x, .int .i64 y]] w fun e w' => e = .returned (.agg #[.int .i64 (9-x), .int .i64 y]) ∧ Below w.heap.size w w' := by
  rw [ptB_iff] at h
  go_enter Try.func54, Try.ntmps54
  go_wp2
  exact bodyPost_ret (v := .agg #[.int .i64 (9-x), .int .i64 y]) (by simp [results, Try.results54, go_sem]) rfl ⟨rfl, (by repeat (first | exact bw_refl _ | assumption | apply bw_drewN | apply bw_drew | apply bw_alloc | refine bw_set ?_ (by simp) _))⟩
theorem luSwap_any (x y : Int) (w : World) :
    Calls Try.prog 53 #[.agg #[.int .i64 x, .int .i64 y]] w fun e w' => e = .returned (.agg #[.int .i64 y, .int .i64 x]) ∧ Below w.heap.size w w' := by
  go_enter Try.func53, Try.ntmps53
  go_wp2
  exact bodyPost_ret (v := .agg #[.int .i64 y, .int .i64 x]) (by simp [results, Try.results53, go_sem]) rfl ⟨rfl, (by repeat (first | exact bw_refl _ | assumption | apply bw_drewN | apply bw_drew | apply bw_alloc | refine bw_set ?_ (by simp) _))⟩
theorem pt_mir {x y : Int} (h : ptB x y = true) : ptB (9 - x) y = true := by rw [ptB_iff] at *; omega
theorem pt_swap {x y : Int} (h : ptB x y = true) : ptB y x = true := by rw [ptB_iff] at *; omega
end Go.Proofs.Ytmoikmpbcdkidaa
