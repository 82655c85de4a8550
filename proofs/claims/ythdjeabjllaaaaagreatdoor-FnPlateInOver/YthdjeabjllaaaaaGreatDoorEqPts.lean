/-
  OUR OWN TEXT. Points that are the same, held against each other, by contract; the exact law of LoopOk, walked.
-/
import Derived.Test.YthdjeabjllaaaaaGreatDoorToPts
namespace Go.Proofs.YthdjeabjllaaaaaGreatDoor
open Go.RowKit Go.Sort

end Go.Proofs.YthdjeabjllaaaaaGreatDoor
