/-
  OUR OWN TEXT. Points and segments on the other side, exchanged, and the other way about, by contract.
-/
import Derived.Test.YtfdnadiliedikaaDoorBoxes
import Derived.Test.YtfdnadiliedikaaDoorGeo
namespace Go.Proofs.YtfdnadiliedikaaDoor
open Go.RowKit

theorem boxes1 (w : World) (o : Obj) : ∃ W, W = w.alloc o ∧ Below w.heap.size w W ∧ W.heap[w.heap.size]? = some o := ⟨_, rfl, (by repeat (first | exact bw_refl _ | assumption | apply bw_drewN | apply bw_drew | apply bw_alloc | refine bw_set ?_ (by simp) _)), heap_new _ _⟩
theorem pt_mir {x y : Int} (h : ptB x y = true) : ptB (9 - x) y = true := by rw [ptB_iff] at *; omega
theorem pt_swap {x y : Int} (h : ptB x y = true) : ptB y x = true := by rw [ptB_iff] at *; omega
end Go.Proofs.YtfdnadiliedikaaDoor
