/-
  OUR OWN TEXT. From a point or segment of the laws to one of the program, by contract.
-/
import Derived.Test.YthjnfjnnpabenaaGreatDoorBoxes
namespace Go.Proofs.YthjnfjnnpabenaaGreatDoor
open Go.RowKit

end Go.Proofs.YthjnfjnnpabenaaGreatDoor
