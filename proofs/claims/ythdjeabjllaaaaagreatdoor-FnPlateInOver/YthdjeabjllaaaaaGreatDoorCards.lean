/-
  DERIVED. GIVEN WITH THE SEED: THE CARDS: each row of YthdjeabjllaaaaaGreatDoorRows.lean that lists a variable, with what it lists TIED to the program's text (the seventh form; the later family's looks); each row that meets fmt, with fmt's text TOLD by the authors' own Lean function (tested against real Go, not proved from fmt's source: count such statements apart). THE CARD IS WHAT COUNTS. Prove the row's statement (the work); the ties are given (YthdjeabjllaaaaaGreatDoorTie.lean); close each card by the builder's one call (the guide's Derived/Test/ToyasCard.lean, 'card_holds'). Laid BY PROGRAM, IN A SANDBOX (cutbox-door.mjs). By AI agents, Wed Nov 11 2026. No macro, syntax, notation, axiom, sorry.
-/
import Derived.Test.YthdjeabjllaaaaaGreatDoorRows
import GoSem.ClaimSeven
namespace Go.Proofs.YthdjeabjllaaaaaGreatDoor
namespace Rows

/-- THE TIED CARD OF 'laws.FnPlateInOver'. -/
def fnPlateInOverCard : Claim7 := { stood := { row := fnPlateInOverRow, standIns := [], harness := (true, "ee20104daf4961e5ee248ce34e8ec8b1e79183391a28e361b05e900e187e0f6b"), looks := true }, kinds := [], alts := [], laidByText := true, laidKinds := [.sentinel], laidTests := true, laidLooks := .later }
def FnPlateInOverCardSaid : Prop := Claim7.holds Tryz.pinned (.plain (OpenSpec.ofChange fnPlateInOverSpec)) fnPlateInOverCard

/-- THE SECOND FORM's CARD OF 'laws.FnPlateInOver'. -/
def fnPlateInOverUptoCard : Claim7 := { stood := { row := fnPlateInOverUptoRow, standIns := [], harness := (true, "ee20104daf4961e5ee248ce34e8ec8b1e79183391a28e361b05e900e187e0f6b"), looks := true }, kinds := [], alts := [], laidByText := true, laidKinds := [.sentinel], laidTests := true, laidLooks := .later }
def FnPlateInOverUptoCardSaid : Prop := Claim7.holds Tryz.pinned (.plain (OpenSpec.upto fnPlateInOverSpec)) fnPlateInOverUptoCard
end Rows
end Go.Proofs.YthdjeabjllaaaaaGreatDoor
