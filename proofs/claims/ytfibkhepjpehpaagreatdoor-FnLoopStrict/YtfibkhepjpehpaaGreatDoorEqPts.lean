/-
  OUR OWN TEXT. Points that are the same, held against each other, by contract; the exact law of LoopOk, walked.
-/
import Derived.Test.YtfibkhepjpehpaaGreatDoorToPts
namespace Go.Proofs.YtfibkhepjpehpaaGreatDoor
open Go.RowKit Go.Sort

end Go.Proofs.YtfibkhepjpehpaaGreatDoor
