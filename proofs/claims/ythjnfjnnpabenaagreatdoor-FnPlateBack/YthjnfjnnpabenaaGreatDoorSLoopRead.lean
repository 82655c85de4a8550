/-
  OUR OWN TEXT. The specification's reading of a loop, by contract.
-/
import Derived.Test.YthjnfjnnpabenaaGreatDoorSRead
import Derived.Test.YthjnfjnnpabenaaGreatDoorSOk
namespace Go.Proofs.YthjnfjnnpabenaaGreatDoor
open Go.RowKit Go.Sort

/-- The loop of a text. -/
def readL (s : ByteArray) : Option (List P2) :=
  if s.size ≤ 40 then match wordsP (cutL 32 s.data.toList) with
    | none => none
    | some l => if okV l = true then some l else none
  else none
theorem readL_long {s : ByteArray} (h : ¬ s.size ≤ 40) : readL s = none := by unfold readL; rw [if_neg h]
theorem readL_none {s : ByteArray} (h : wordsP (cutL 32 s.data.toList) = none) : readL s = none := by unfold readL; rw [h]; split <;> rfl
theorem readL_bad {s : ByteArray} {l : List P2} (h : wordsP (cutL 32 s.data.toList) = some l) (h2 : okV l = false) : readL s = none := by unfold readL; rw [h]; simp [h2]
theorem readL_some {s : ByteArray} {l : List P2} (hs : s.size ≤ 40) (h : wordsP (cutL 32 s.data.toList) = some l) (h2 : okV l = true) : readL s = some l := by unfold readL; rw [h, if_pos hs]; simp [h2]
end Go.Proofs.YthjnfjnnpabenaaGreatDoor
