/-
  DERIVED. GIVEN WITH THE SEED: THE CARDS: each row of YthjnfjnnpabenaaGreatDoorRows.lean that lists a variable, with what it lists TIED to the program's text (the seventh form; the later family's looks); each row that meets fmt, with fmt's text TOLD by the authors' own Lean function (tested against real Go, not proved from fmt's source: count such statements apart). THE CARD IS WHAT COUNTS. Prove the row's statement (the work); the ties are given (YthjnfjnnpabenaaGreatDoorTie.lean); close each card by the builder's one call (the guide's Derived/Test/ToyasCard.lean, 'card_holds'). Laid BY PROGRAM, IN A SANDBOX (cutbox-door.mjs). By AI agents, Wed Nov 11 2026. No macro, syntax, notation, axiom, sorry.
-/
import Derived.Test.YthjnfjnnpabenaaGreatDoorRows
import GoSem.ClaimSeven
namespace Go.Proofs.YthjnfjnnpabenaaGreatDoor
namespace Rows

/-- THE TIED CARD OF 'laws.FnExactPlateRead'. -/
def fnExactPlateReadCard : Claim7 := { stood := { row := fnExactPlateReadRow, standIns := [], harness := (true, "1b925e59d7ce7cb2b3b01d90d40e99e466627e2c64a4ebdfeb9ecd2b0e53118c"), looks := true }, kinds := [], alts := [], laidByText := true, laidKinds := [.data, .data, .data, .data, .sentinel, .sentinel, .pinned], laidTests := true, laidLooks := .later }
def FnExactPlateReadCardSaid : Prop := Claim7.holds Tryz.pinned (.plain (OpenSpec.ofChange fnExactPlateReadSpec)) fnExactPlateReadCard

/-- THE TIED CARD OF 'laws.FnPlateBack'. -/
def fnPlateBackCard : Claim7 := { stood := { row := fnPlateBackRow, standIns := [], harness := (true, "1b925e59d7ce7cb2b3b01d90d40e99e466627e2c64a4ebdfeb9ecd2b0e53118c"), looks := true }, kinds := [], alts := [], laidByText := true, laidKinds := [.data, .data, .data, .data, .sentinel, .sentinel, .pinned], laidTests := true, laidLooks := .later }
def FnPlateBackCardSaid : Prop := Claim7.holds Tryz.pinned (.plain (OpenSpec.ofChange fnPlateBackSpec)) fnPlateBackCard

/-- THE TIED CARD OF 'laws.FnPlateStrict'. -/
def fnPlateStrictCard : Claim7 := { stood := { row := fnPlateStrictRow, standIns := [], harness := (true, "1b925e59d7ce7cb2b3b01d90d40e99e466627e2c64a4ebdfeb9ecd2b0e53118c"), looks := true }, kinds := [], alts := [], laidByText := true, laidKinds := [.data, .data, .data, .data, .sentinel, .sentinel, .pinned], laidTests := true, laidLooks := .later }
def FnPlateStrictCardSaid : Prop := Claim7.holds Tryz.pinned (.plain (OpenSpec.ofChange fnPlateStrictSpec)) fnPlateStrictCard

/-- THE SECOND FORM's CARD OF 'laws.FnExactPlateRead'. -/
def fnExactPlateReadUptoCard : Claim7 := { stood := { row := fnExactPlateReadUptoRow, standIns := [], harness := (true, "1b925e59d7ce7cb2b3b01d90d40e99e466627e2c64a4ebdfeb9ecd2b0e53118c"), looks := true }, kinds := [], alts := [], laidByText := true, laidKinds := [.data, .data, .data, .data, .sentinel, .sentinel, .pinned], laidTests := true, laidLooks := .later }
def FnExactPlateReadUptoCardSaid : Prop := Claim7.holds Tryz.pinned (.plain (OpenSpec.upto fnExactPlateReadSpec)) fnExactPlateReadUptoCard

/-- THE SECOND FORM's CARD OF 'laws.FnPlateBack'. -/
def fnPlateBackUptoCard : Claim7 := { stood := { row := fnPlateBackUptoRow, standIns := [], harness := (true, "1b925e59d7ce7cb2b3b01d90d40e99e466627e2c64a4ebdfeb9ecd2b0e53118c"), looks := true }, kinds := [], alts := [], laidByText := true, laidKinds := [.data, .data, .data, .data, .sentinel, .sentinel, .pinned], laidTests := true, laidLooks := .later }
def FnPlateBackUptoCardSaid : Prop := Claim7.holds Tryz.pinned (.plain (OpenSpec.upto fnPlateBackSpec)) fnPlateBackUptoCard

/-- THE SECOND FORM's CARD OF 'laws.FnPlateStrict'. -/
def fnPlateStrictUptoCard : Claim7 := { stood := { row := fnPlateStrictUptoRow, standIns := [], harness := (true, "1b925e59d7ce7cb2b3b01d90d40e99e466627e2c64a4ebdfeb9ecd2b0e53118c"), looks := true }, kinds := [], alts := [], laidByText := true, laidKinds := [.data, .data, .data, .data, .sentinel, .sentinel, .pinned], laidTests := true, laidLooks := .later }
def FnPlateStrictUptoCardSaid : Prop := Claim7.holds Tryz.pinned (.plain (OpenSpec.upto fnPlateStrictSpec)) fnPlateStrictUptoCard
end Rows
end Go.Proofs.YthjnfjnnpabenaaGreatDoor
