/-
  OUR OWN TEXT. What the longer list of package variables gives: the sentinel's cell and the library's table of powers of ten; a start that meets it. No condition of its own.
-/
import Derived.Test.YtebjdfpfbcbhnaaDoorText
import Derived.Test.YtebjdfpfbcbhnaaDoorLaid
import Derived.Lib.LaidTab
namespace Go.Proofs.YtebjdfpfbcbhnaaDoor
open Go.ChangeShapes Go.WideShapes Go.ChangeAt Go.RowKit

/-- The list. -/
def listText : List (String × DataW Unit) := [("math/bits.deBruijn32tab", Rows.laid_math_bits_deBruijn32tab), ("math/bits.deBruijn64tab", Rows.laid_math_bits_deBruijn64tab), ("internal/strconv.uint64pow10", Rows.laid_internal_strconv_uint64pow10), ("loop.example/mortiser/impl.errNoFrac", Rows.laid_loop_example_mortiser_impl_errNoFrac)]
theorem gPType : (Tryd.prog.globals[1]?).map (·.type) = some 92 := by kernel_rfl
theorem cellsU64 : Tryd.prog.cellsOf 86 = 1 := by kernel_rfl
theorem cellsTab : Tryd.prog.cellsOf 92 = 20 := by kernel_rfl
theorem tabSame : Rows.laid_internal_strconv_uint64pow10 (H := Unit) = Lib.tabData .u64 Lib.pow10Tab := by kernel_rfl

theorem sent_of_laid_text {W : World} (h : laidMetH Tryd.prog listText W) :
    ∃ a, W.var? Tryd.prog "loop.example/mortiser/impl.errNoFrac" = some #[.iface 101 (.pointer (some a))] ∧ Sent a W ∧ Tab W := by
  rw [MakeChecks.laidMetH_plain _ _ _ (by kernel_rfl)] at h
  have h3 : laidMet Tryd.prog [("internal/strconv.uint64pow10", Rows.laid_internal_strconv_uint64pow10), ("loop.example/mortiser/impl.errNoFrac", Rows.laid_loop_example_mortiser_impl_errNoFrac)] W := (laidMet.tail (laidMet.tail h))
  obtain ⟨a, hv, hs⟩ := sent_of_met (laidMet.tail h3)
  refine ⟨a, hv, hs, ?_⟩
  rw [tabSame] at h3
  exact Lib.tabIs_of_head gP gPType Tryd.underlying92 Tryd.underlying86 cellsU64 cellsTab h3

/-- The door's own heap meets the condition. -/
theorem door_met_text (os : Os) (args : Array Value) : laidMetH Tryd.prog listText ((World.doorLaid Tryd.prog 43 os).forCall (fun _ _ => 0) ⟨#[], args, []⟩).memory :=
  laidMetH_of_parts3 (fuel := 8) (laidMet_of_run' 8 (by kernel_rfl) (by kernel_rfl)) (by kernel_rfl) (by kernel_rfl)
end Go.Proofs.YtebjdfpfbcbhnaaDoor
