/-
  OUR OWN TEXT. From a point or segment of the laws to one of the program, by contract.
-/
import Derived.Test.YtfibkhepjpehpaaDoorBoxes
namespace Go.Proofs.YtfibkhepjpehpaaDoor
open Go.RowKit

end Go.Proofs.YtfibkhepjpehpaaDoor
