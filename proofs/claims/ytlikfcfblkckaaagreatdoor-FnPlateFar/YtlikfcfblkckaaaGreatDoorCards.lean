/-
  DERIVED. GIVEN WITH THE SEED: THE CARDS: each row of YtlikfcfblkckaaaGreatDoorRows.lean that lists a variable, with what it lists TIED to the program's text (the seventh form; the later family's looks); each row that meets fmt, with fmt's text TOLD by the authors' own Lean function (tested against real Go, not proved from fmt's source: count such statements apart). THE CARD IS WHAT COUNTS. Prove the row's statement (the work); the ties are given (YtlikfcfblkckaaaGreatDoorTie.lean); close each card by the builder's one call (the guide's Derived/Test/ToyasCard.lean, 'card_holds'). Laid BY PROGRAM, IN A SANDBOX (cutbox-door.mjs). By AI agents, Wed Nov 11 2026. No macro, syntax, notation, axiom, sorry.
-/
import Derived.Test.YtlikfcfblkckaaaGreatDoorRows
import GoSem.ClaimSeven
namespace Go.Proofs.YtlikfcfblkckaaaGreatDoor
namespace Rows

/-- THE TIED CARD OF 'laws.FnPlateFar'. -/
def fnPlateFarCard : Claim7 := { stood := { row := fnPlateFarRow, standIns := [], harness := (true, "5c3fc84336679a5468116a684ae25bf1105e6e6faa7dfc760e2bc61a844e7ccd"), looks := true }, kinds := [], alts := [], laidByText := true, laidKinds := [.sentinel], laidTests := true, laidLooks := .later }
def FnPlateFarCardSaid : Prop := Claim7.holds Tryz.pinned (.plain (OpenSpec.ofChange fnPlateFarSpec)) fnPlateFarCard

/-- THE TIED CARD OF 'laws.FnPlateNear'. -/
def fnPlateNearCard : Claim7 := { stood := { row := fnPlateNearRow, standIns := [], harness := (true, "5c3fc84336679a5468116a684ae25bf1105e6e6faa7dfc760e2bc61a844e7ccd"), looks := true }, kinds := [], alts := [], laidByText := true, laidKinds := [.sentinel], laidTests := true, laidLooks := .later }
def FnPlateNearCardSaid : Prop := Claim7.holds Tryz.pinned (.plain (OpenSpec.ofChange fnPlateNearSpec)) fnPlateNearCard

/-- THE TIED CARD OF 'laws.FnExactPlateNear'. -/
def fnExactPlateNearCard : Claim7 := { stood := { row := fnExactPlateNearRow, standIns := [], harness := (true, "5c3fc84336679a5468116a684ae25bf1105e6e6faa7dfc760e2bc61a844e7ccd"), looks := true }, kinds := [], alts := [], laidByText := true, laidKinds := [.sentinel], laidTests := true, laidLooks := .later }
def FnExactPlateNearCardSaid : Prop := Claim7.holds Tryz.pinned (.plain (OpenSpec.ofChange fnExactPlateNearSpec)) fnExactPlateNearCard

/-- THE SECOND FORM's CARD OF 'laws.FnPlateFar'. -/
def fnPlateFarUptoCard : Claim7 := { stood := { row := fnPlateFarUptoRow, standIns := [], harness := (true, "5c3fc84336679a5468116a684ae25bf1105e6e6faa7dfc760e2bc61a844e7ccd"), looks := true }, kinds := [], alts := [], laidByText := true, laidKinds := [.sentinel], laidTests := true, laidLooks := .later }
def FnPlateFarUptoCardSaid : Prop := Claim7.holds Tryz.pinned (.plain (OpenSpec.upto fnPlateFarSpec)) fnPlateFarUptoCard

/-- THE SECOND FORM's CARD OF 'laws.FnPlateNear'. -/
def fnPlateNearUptoCard : Claim7 := { stood := { row := fnPlateNearUptoRow, standIns := [], harness := (true, "5c3fc84336679a5468116a684ae25bf1105e6e6faa7dfc760e2bc61a844e7ccd"), looks := true }, kinds := [], alts := [], laidByText := true, laidKinds := [.sentinel], laidTests := true, laidLooks := .later }
def FnPlateNearUptoCardSaid : Prop := Claim7.holds Tryz.pinned (.plain (OpenSpec.upto fnPlateNearSpec)) fnPlateNearUptoCard

/-- THE SECOND FORM's CARD OF 'laws.FnExactPlateNear'. -/
def fnExactPlateNearUptoCard : Claim7 := { stood := { row := fnExactPlateNearUptoRow, standIns := [], harness := (true, "5c3fc84336679a5468116a684ae25bf1105e6e6faa7dfc760e2bc61a844e7ccd"), looks := true }, kinds := [], alts := [], laidByText := true, laidKinds := [.sentinel], laidTests := true, laidLooks := .later }
def FnExactPlateNearUptoCardSaid : Prop := Claim7.holds Tryz.pinned (.plain (OpenSpec.upto fnExactPlateNearSpec)) fnExactPlateNearUptoCard
end Rows
end Go.Proofs.YtlikfcfblkckaaaGreatDoor
