/-
  OUR OWN TEXT. From a point or segment of the laws to one of the program, by contract.
-/
import Derived.Test.YthdjeabjllaaaaaGreatDoorBoxes
namespace Go.Proofs.YthdjeabjllaaaaaGreatDoor
open Go.RowKit

end Go.Proofs.YthdjeabjllaaaaaGreatDoor
