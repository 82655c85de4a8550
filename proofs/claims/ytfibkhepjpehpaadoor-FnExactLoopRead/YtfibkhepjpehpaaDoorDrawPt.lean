/-
  OUR OWN TEXT. The specification's drawn points, by contract: whatever the bytes are, what is drawn lies within small bounds; nothing that was there is written.
-/
import Derived.Test.YtfibkhepjpehpaaDoorReader
namespace Go.Proofs.YtfibkhepjpehpaaDoor
open Go.RowKit

/-- The bounds of a drawn point. -/
def PB (x y : Int) : Prop := -2 ≤ x ∧ x ≤ 11 ∧ -2 ≤ y ∧ y ≤ 11

end Go.Proofs.YtfibkhepjpehpaaDoor
