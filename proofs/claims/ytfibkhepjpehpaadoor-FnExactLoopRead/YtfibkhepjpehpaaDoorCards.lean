/-
  DERIVED. GIVEN WITH THE SEED: THE CARDS: each row of YtfibkhepjpehpaaDoorRows.lean that lists a variable, with what it lists TIED to the program's text (the seventh form; the later family's looks); each row that meets fmt, with fmt's text TOLD by the authors' own Lean function (tested against real Go, not proved from fmt's source: count such statements apart). THE CARD IS WHAT COUNTS. Prove the row's statement (the work); the ties are given (YtfibkhepjpehpaaDoorTie.lean); close each card by the builder's one call (the guide's Derived/Test/ToyasCard.lean, 'card_holds'). Laid BY PROGRAM, IN A SANDBOX (cutbox-door.mjs). By AI agents, Wed Nov 11 2026. No macro, syntax, notation, axiom, sorry.
-/
import Derived.Test.YtfibkhepjpehpaaDoorRows
import GoSem.ClaimSeven
namespace Go.Proofs.YtfibkhepjpehpaaDoor
namespace Rows

/-- THE TIED CARD OF 'laws.FnExactLoopRead'. -/
def fnExactLoopReadCard : Claim7 := { stood := { row := fnExactLoopReadRow, standIns := [], harness := (true, "a1045a117d7ab0f76ee7671c8098018107e32ed2ba8b722ce54fa4472f58922e"), looks := true }, kinds := [], alts := [], laidByText := true, laidKinds := [.data, .data, .data, .data, .sentinel, .sentinel, .pinned], laidTests := true, laidLooks := .later }
def FnExactLoopReadCardSaid : Prop := Claim7.holds Tryd.pinned (.plain (OpenSpec.ofChange fnExactLoopReadSpec)) fnExactLoopReadCard

/-- THE SECOND FORM's CARD OF 'laws.FnExactLoopRead'. -/
def fnExactLoopReadUptoCard : Claim7 := { stood := { row := fnExactLoopReadUptoRow, standIns := [], harness := (true, "a1045a117d7ab0f76ee7671c8098018107e32ed2ba8b722ce54fa4472f58922e"), looks := true }, kinds := [], alts := [], laidByText := true, laidKinds := [.data, .data, .data, .data, .sentinel, .sentinel, .pinned], laidTests := true, laidLooks := .later }
def FnExactLoopReadUptoCardSaid : Prop := Claim7.holds Tryd.pinned (.plain (OpenSpec.upto fnExactLoopReadSpec)) fnExactLoopReadUptoCard
end Rows
end Go.Proofs.YtfibkhepjpehpaaDoor
