/-
  DERIVED. GIVEN WITH THE SEED: THE CARDS: each row of YtkncejcpeejkkaaGreatDoorRows.lean that lists a variable, with what it lists TIED to the program's text (the seventh form; the later family's looks); each row that meets fmt, with fmt's text TOLD by the authors' own Lean function (tested against real Go, not proved from fmt's source: count such statements apart). THE CARD IS WHAT COUNTS. Prove the row's statement (the work); the ties are given (YtkncejcpeejkkaaGreatDoorTie.lean); close each card by the builder's one call (the guide's Derived/Test/ToyasCard.lean, 'card_holds'). Laid BY PROGRAM, IN A SANDBOX (cutbox-door.mjs). By AI agents, Wed Nov 11 2026. No macro, syntax, notation, axiom, sorry.
-/
import Derived.Test.YtkncejcpeejkkaaGreatDoorRows
import GoSem.ClaimSeven
namespace Go.Proofs.YtkncejcpeejkkaaGreatDoor
namespace Rows

/-- THE TIED CARD OF 'laws.FnExactPathOk'. -/
def fnExactPathOkCard : Claim7 := { stood := { row := fnExactPathOkRow, standIns := [], harness := (true, "e0ea2060b47d0b820b2ff41a21a840bbcf2be81590e53c2d92d8a6f272b9c730"), looks := true }, kinds := [], alts := [], laidByText := true, laidKinds := [.sentinel], laidTests := true, laidLooks := .later }
def FnExactPathOkCardSaid : Prop := Claim7.holds Tryz.pinned (.plain (OpenSpec.ofChange fnExactPathOkSpec)) fnExactPathOkCard

/-- THE TIED CARD OF 'laws.FnPathStep'. -/
def fnPathStepCard : Claim7 := { stood := { row := fnPathStepRow, standIns := [], harness := (true, "e0ea2060b47d0b820b2ff41a21a840bbcf2be81590e53c2d92d8a6f272b9c730"), looks := true }, kinds := [], alts := [], laidByText := true, laidKinds := [.sentinel], laidTests := true, laidLooks := .later }
def FnPathStepCardSaid : Prop := Claim7.holds Tryz.pinned (.plain (OpenSpec.ofChange fnPathStepSpec)) fnPathStepCard

/-- THE SECOND FORM's CARD OF 'laws.FnExactPathOk'. -/
def fnExactPathOkUptoCard : Claim7 := { stood := { row := fnExactPathOkUptoRow, standIns := [], harness := (true, "e0ea2060b47d0b820b2ff41a21a840bbcf2be81590e53c2d92d8a6f272b9c730"), looks := true }, kinds := [], alts := [], laidByText := true, laidKinds := [.sentinel], laidTests := true, laidLooks := .later }
def FnExactPathOkUptoCardSaid : Prop := Claim7.holds Tryz.pinned (.plain (OpenSpec.upto fnExactPathOkSpec)) fnExactPathOkUptoCard

/-- THE SECOND FORM's CARD OF 'laws.FnPathStep'. -/
def fnPathStepUptoCard : Claim7 := { stood := { row := fnPathStepUptoRow, standIns := [], harness := (true, "e0ea2060b47d0b820b2ff41a21a840bbcf2be81590e53c2d92d8a6f272b9c730"), looks := true }, kinds := [], alts := [], laidByText := true, laidKinds := [.sentinel], laidTests := true, laidLooks := .later }
def FnPathStepUptoCardSaid : Prop := Claim7.holds Tryz.pinned (.plain (OpenSpec.upto fnPathStepSpec)) fnPathStepUptoCard
end Rows
end Go.Proofs.YtkncejcpeejkkaaGreatDoor
