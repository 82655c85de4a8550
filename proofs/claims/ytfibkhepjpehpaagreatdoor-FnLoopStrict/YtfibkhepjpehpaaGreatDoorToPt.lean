/-
  OUR OWN TEXT. From a point or segment of the laws to one of the program, by contract.
-/
import Derived.Test.YtfibkhepjpehpaaGreatDoorBoxes
namespace Go.Proofs.YtfibkhepjpehpaaGreatDoor
open Go.RowKit

end Go.Proofs.YtfibkhepjpehpaaGreatDoor
