/-
  OUR OWN TEXT. The iterator over the edges of points: its contract, for every loop body that keeps what lay below.
-/
import Derived.Test.YtfdnadiliedikaaDoorEdgeK
namespace Go.Proofs.YtfdnadiliedikaaDoor
open Go.RowKit Go.Shelf
attribute [local go_sem] Oper.semAt_some

end Go.Proofs.YtfdnadiliedikaaDoor
