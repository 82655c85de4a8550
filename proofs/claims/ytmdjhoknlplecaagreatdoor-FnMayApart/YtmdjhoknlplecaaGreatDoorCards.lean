/-
  DERIVED. GIVEN WITH THE SEED: THE CARDS: each row of YtmdjhoknlplecaaGreatDoorRows.lean that lists a variable, with what it lists TIED to the program's text (the seventh form; the later family's looks); each row that meets fmt, with fmt's text TOLD by the authors' own Lean function (tested against real Go, not proved from fmt's source: count such statements apart). THE CARD IS WHAT COUNTS. Prove the row's statement (the work); the ties are given (YtmdjhoknlplecaaGreatDoorTie.lean); close each card by the builder's one call (the guide's Derived/Test/ToyasCard.lean, 'card_holds'). Laid BY PROGRAM, IN A SANDBOX (cutbox-door.mjs). By AI agents, Wed Nov 11 2026. No macro, syntax, notation, axiom, sorry.
-/
import Derived.Test.YtmdjhoknlplecaaGreatDoorRows
import GoSem.ClaimSeven
namespace Go.Proofs.YtmdjhoknlplecaaGreatDoor
namespace Rows

/-- THE TIED CARD OF 'laws.FnExactToolFits'. -/
def fnExactToolFitsCard : Claim7 := { stood := { row := fnExactToolFitsRow, standIns := [], harness := (true, "ed59a37ef78a8e26e891e3b56addbfd856193dea0e8d9cddbb06936b42adf7ac"), looks := true }, kinds := [], alts := [], laidByText := true, laidKinds := [.sentinel], laidTests := true, laidLooks := .later }
def FnExactToolFitsCardSaid : Prop := Claim7.holds Tryz.pinned (.plain (OpenSpec.ofChange fnExactToolFitsSpec)) fnExactToolFitsCard

/-- THE TIED CARD OF 'laws.FnExactToolMay'. -/
def fnExactToolMayCard : Claim7 := { stood := { row := fnExactToolMayRow, standIns := [], harness := (true, "ed59a37ef78a8e26e891e3b56addbfd856193dea0e8d9cddbb06936b42adf7ac"), looks := true }, kinds := [], alts := [], laidByText := true, laidKinds := [.sentinel], laidTests := true, laidLooks := .later }
def FnExactToolMayCardSaid : Prop := Claim7.holds Tryz.pinned (.plain (OpenSpec.ofChange fnExactToolMaySpec)) fnExactToolMayCard

/-- THE TIED CARD OF 'laws.FnFits'. -/
def fnFitsCard : Claim7 := { stood := { row := fnFitsRow, standIns := [], harness := (true, "ed59a37ef78a8e26e891e3b56addbfd856193dea0e8d9cddbb06936b42adf7ac"), looks := true }, kinds := [], alts := [], laidByText := true, laidKinds := [.sentinel], laidTests := true, laidLooks := .later }
def FnFitsCardSaid : Prop := Claim7.holds Tryz.pinned (.plain (OpenSpec.ofChange fnFitsSpec)) fnFitsCard

/-- THE TIED CARD OF 'laws.FnFitsLess'. -/
def fnFitsLessCard : Claim7 := { stood := { row := fnFitsLessRow, standIns := [], harness := (true, "ed59a37ef78a8e26e891e3b56addbfd856193dea0e8d9cddbb06936b42adf7ac"), looks := true }, kinds := [], alts := [], laidByText := true, laidKinds := [.sentinel], laidTests := true, laidLooks := .later }
def FnFitsLessCardSaid : Prop := Claim7.holds Tryz.pinned (.plain (OpenSpec.ofChange fnFitsLessSpec)) fnFitsLessCard

/-- THE TIED CARD OF 'laws.FnMayBoth'. -/
def fnMayBothCard : Claim7 := { stood := { row := fnMayBothRow, standIns := [], harness := (true, "ed59a37ef78a8e26e891e3b56addbfd856193dea0e8d9cddbb06936b42adf7ac"), looks := true }, kinds := [], alts := [], laidByText := true, laidKinds := [.sentinel], laidTests := true, laidLooks := .later }
def FnMayBothCardSaid : Prop := Claim7.holds Tryz.pinned (.plain (OpenSpec.ofChange fnMayBothSpec)) fnMayBothCard

/-- THE TIED CARD OF 'laws.FnMayApart'. -/
def fnMayApartCard : Claim7 := { stood := { row := fnMayApartRow, standIns := [], harness := (true, "ed59a37ef78a8e26e891e3b56addbfd856193dea0e8d9cddbb06936b42adf7ac"), looks := true }, kinds := [], alts := [], laidByText := true, laidKinds := [.sentinel], laidTests := true, laidLooks := .later }
def FnMayApartCardSaid : Prop := Claim7.holds Tryz.pinned (.plain (OpenSpec.ofChange fnMayApartSpec)) fnMayApartCard

/-- THE TIED CARD OF 'laws.FnMayOver'. -/
def fnMayOverCard : Claim7 := { stood := { row := fnMayOverRow, standIns := [], harness := (true, "ed59a37ef78a8e26e891e3b56addbfd856193dea0e8d9cddbb06936b42adf7ac"), looks := true }, kinds := [], alts := [], laidByText := true, laidKinds := [.sentinel], laidTests := true, laidLooks := .later }
def FnMayOverCardSaid : Prop := Claim7.holds Tryz.pinned (.plain (OpenSpec.ofChange fnMayOverSpec)) fnMayOverCard

/-- THE TIED CARD OF 'laws.FnFitsMost'. -/
def fnFitsMostCard : Claim7 := { stood := { row := fnFitsMostRow, standIns := [], harness := (true, "ed59a37ef78a8e26e891e3b56addbfd856193dea0e8d9cddbb06936b42adf7ac"), looks := true }, kinds := [], alts := [], laidByText := true, laidKinds := [.sentinel], laidTests := true, laidLooks := .later }
def FnFitsMostCardSaid : Prop := Claim7.holds Tryz.pinned (.plain (OpenSpec.ofChange fnFitsMostSpec)) fnFitsMostCard

/-- THE SECOND FORM's CARD OF 'laws.FnExactToolFits'. -/
def fnExactToolFitsUptoCard : Claim7 := { stood := { row := fnExactToolFitsUptoRow, standIns := [], harness := (true, "ed59a37ef78a8e26e891e3b56addbfd856193dea0e8d9cddbb06936b42adf7ac"), looks := true }, kinds := [], alts := [], laidByText := true, laidKinds := [.sentinel], laidTests := true, laidLooks := .later }
def FnExactToolFitsUptoCardSaid : Prop := Claim7.holds Tryz.pinned (.plain (OpenSpec.upto fnExactToolFitsSpec)) fnExactToolFitsUptoCard

/-- THE SECOND FORM's CARD OF 'laws.FnExactToolMay'. -/
def fnExactToolMayUptoCard : Claim7 := { stood := { row := fnExactToolMayUptoRow, standIns := [], harness := (true, "ed59a37ef78a8e26e891e3b56addbfd856193dea0e8d9cddbb06936b42adf7ac"), looks := true }, kinds := [], alts := [], laidByText := true, laidKinds := [.sentinel], laidTests := true, laidLooks := .later }
def FnExactToolMayUptoCardSaid : Prop := Claim7.holds Tryz.pinned (.plain (OpenSpec.upto fnExactToolMaySpec)) fnExactToolMayUptoCard

/-- THE SECOND FORM's CARD OF 'laws.FnFits'. -/
def fnFitsUptoCard : Claim7 := { stood := { row := fnFitsUptoRow, standIns := [], harness := (true, "ed59a37ef78a8e26e891e3b56addbfd856193dea0e8d9cddbb06936b42adf7ac"), looks := true }, kinds := [], alts := [], laidByText := true, laidKinds := [.sentinel], laidTests := true, laidLooks := .later }
def FnFitsUptoCardSaid : Prop := Claim7.holds Tryz.pinned (.plain (OpenSpec.upto fnFitsSpec)) fnFitsUptoCard

/-- THE SECOND FORM's CARD OF 'laws.FnFitsLess'. -/
def fnFitsLessUptoCard : Claim7 := { stood := { row := fnFitsLessUptoRow, standIns := [], harness := (true, "ed59a37ef78a8e26e891e3b56addbfd856193dea0e8d9cddbb06936b42adf7ac"), looks := true }, kinds := [], alts := [], laidByText := true, laidKinds := [.sentinel], laidTests := true, laidLooks := .later }
def FnFitsLessUptoCardSaid : Prop := Claim7.holds Tryz.pinned (.plain (OpenSpec.upto fnFitsLessSpec)) fnFitsLessUptoCard

/-- THE SECOND FORM's CARD OF 'laws.FnMayBoth'. -/
def fnMayBothUptoCard : Claim7 := { stood := { row := fnMayBothUptoRow, standIns := [], harness := (true, "ed59a37ef78a8e26e891e3b56addbfd856193dea0e8d9cddbb06936b42adf7ac"), looks := true }, kinds := [], alts := [], laidByText := true, laidKinds := [.sentinel], laidTests := true, laidLooks := .later }
def FnMayBothUptoCardSaid : Prop := Claim7.holds Tryz.pinned (.plain (OpenSpec.upto fnMayBothSpec)) fnMayBothUptoCard

/-- THE SECOND FORM's CARD OF 'laws.FnMayApart'. -/
def fnMayApartUptoCard : Claim7 := { stood := { row := fnMayApartUptoRow, standIns := [], harness := (true, "ed59a37ef78a8e26e891e3b56addbfd856193dea0e8d9cddbb06936b42adf7ac"), looks := true }, kinds := [], alts := [], laidByText := true, laidKinds := [.sentinel], laidTests := true, laidLooks := .later }
def FnMayApartUptoCardSaid : Prop := Claim7.holds Tryz.pinned (.plain (OpenSpec.upto fnMayApartSpec)) fnMayApartUptoCard

/-- THE SECOND FORM's CARD OF 'laws.FnMayOver'. -/
def fnMayOverUptoCard : Claim7 := { stood := { row := fnMayOverUptoRow, standIns := [], harness := (true, "ed59a37ef78a8e26e891e3b56addbfd856193dea0e8d9cddbb06936b42adf7ac"), looks := true }, kinds := [], alts := [], laidByText := true, laidKinds := [.sentinel], laidTests := true, laidLooks := .later }
def FnMayOverUptoCardSaid : Prop := Claim7.holds Tryz.pinned (.plain (OpenSpec.upto fnMayOverSpec)) fnMayOverUptoCard

/-- THE SECOND FORM's CARD OF 'laws.FnFitsMost'. -/
def fnFitsMostUptoCard : Claim7 := { stood := { row := fnFitsMostUptoRow, standIns := [], harness := (true, "ed59a37ef78a8e26e891e3b56addbfd856193dea0e8d9cddbb06936b42adf7ac"), looks := true }, kinds := [], alts := [], laidByText := true, laidKinds := [.sentinel], laidTests := true, laidLooks := .later }
def FnFitsMostUptoCardSaid : Prop := Claim7.holds Tryz.pinned (.plain (OpenSpec.upto fnFitsMostSpec)) fnFitsMostUptoCard
end Rows
end Go.Proofs.YtmdjhoknlplecaaGreatDoor
