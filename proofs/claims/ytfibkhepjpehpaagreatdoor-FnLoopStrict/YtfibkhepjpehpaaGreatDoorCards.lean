/-
  DERIVED. GIVEN WITH THE SEED: THE CARDS: each row of YtfibkhepjpehpaaGreatDoorRows.lean that lists a variable, with what it lists TIED to the program's text (the seventh form; the later family's looks); each row that meets fmt, with fmt's text TOLD by the authors' own Lean function (tested against real Go, not proved from fmt's source: count such statements apart). THE CARD IS WHAT COUNTS. Prove the row's statement (the work); the ties are given (YtfibkhepjpehpaaGreatDoorTie.lean); close each card by the builder's one call (the guide's Derived/Test/ToyasCard.lean, 'card_holds'). Laid BY PROGRAM, IN A SANDBOX (cutbox-door.mjs). By AI agents, Wed Nov 11 2026. No macro, syntax, notation, axiom, sorry.
-/
import Derived.Test.YtfibkhepjpehpaaGreatDoorRows
import GoSem.ClaimSeven
namespace Go.Proofs.YtfibkhepjpehpaaGreatDoor
namespace Rows

/-- THE TIED CARD OF 'laws.FnLoopBack'. -/
def fnLoopBackCard : Claim7 := { stood := { row := fnLoopBackRow, standIns := [], harness := (true, "e5d8d43bd8adb3eeaf4f0712b0374e207a0b677e9fb45e5c3967e8ca220c8e6e"), looks := true }, kinds := [], alts := [], laidByText := true, laidKinds := [.data, .data, .data, .data, .sentinel, .sentinel, .pinned], laidTests := true, laidLooks := .later }
def FnLoopBackCardSaid : Prop := Claim7.holds Tryz.pinned (.plain (OpenSpec.ofChange fnLoopBackSpec)) fnLoopBackCard

/-- THE TIED CARD OF 'laws.FnLoopStrict'. -/
def fnLoopStrictCard : Claim7 := { stood := { row := fnLoopStrictRow, standIns := [], harness := (true, "e5d8d43bd8adb3eeaf4f0712b0374e207a0b677e9fb45e5c3967e8ca220c8e6e"), looks := true }, kinds := [], alts := [], laidByText := true, laidKinds := [.data, .data, .data, .data, .sentinel, .sentinel, .pinned], laidTests := true, laidLooks := .later }
def FnLoopStrictCardSaid : Prop := Claim7.holds Tryz.pinned (.plain (OpenSpec.ofChange fnLoopStrictSpec)) fnLoopStrictCard

/-- THE SECOND FORM's CARD OF 'laws.FnLoopBack'. -/
def fnLoopBackUptoCard : Claim7 := { stood := { row := fnLoopBackUptoRow, standIns := [], harness := (true, "e5d8d43bd8adb3eeaf4f0712b0374e207a0b677e9fb45e5c3967e8ca220c8e6e"), looks := true }, kinds := [], alts := [], laidByText := true, laidKinds := [.data, .data, .data, .data, .sentinel, .sentinel, .pinned], laidTests := true, laidLooks := .later }
def FnLoopBackUptoCardSaid : Prop := Claim7.holds Tryz.pinned (.plain (OpenSpec.upto fnLoopBackSpec)) fnLoopBackUptoCard

/-- THE SECOND FORM's CARD OF 'laws.FnLoopStrict'. -/
def fnLoopStrictUptoCard : Claim7 := { stood := { row := fnLoopStrictUptoRow, standIns := [], harness := (true, "e5d8d43bd8adb3eeaf4f0712b0374e207a0b677e9fb45e5c3967e8ca220c8e6e"), looks := true }, kinds := [], alts := [], laidByText := true, laidKinds := [.data, .data, .data, .data, .sentinel, .sentinel, .pinned], laidTests := true, laidLooks := .later }
def FnLoopStrictUptoCardSaid : Prop := Claim7.holds Tryz.pinned (.plain (OpenSpec.upto fnLoopStrictSpec)) fnLoopStrictUptoCard
end Rows
end Go.Proofs.YtfibkhepjpehpaaGreatDoor
