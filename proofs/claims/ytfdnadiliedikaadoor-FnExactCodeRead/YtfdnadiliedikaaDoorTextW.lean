/-
  OUR OWN TEXT. The text of points: the program's and the specification's, by contract.
-/
import Derived.Test.YtfdnadiliedikaaDoorTextM2
import Derived.Test.YtfdnadiliedikaaDoorEdgeS
import Derived.Test.YtfdnadiliedikaaDoorToPts
import Derived.OwnWalk
import Derived.Deep.AppendLies
namespace Go.Proofs.YtfdnadiliedikaaDoor
open Go.RowKit Go.Sort

theorem Tryd.infoStr : (Tryd.prog.info? 9).map (fun i => (i.zero, i.size, i.bytes)) = some (some (.string ⟨#[]⟩), 1, 16) := by kernel_rfl
theorem take_snocW {l : List P2} {k : Nat} (h : k < l.length) : l.take (k + 1) = l.take k ++ [ptAt l k] := by
  rw [List.take_add_one]; simp [ptAt, h]
end Go.Proofs.YtfdnadiliedikaaDoor
