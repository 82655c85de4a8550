/-
  DERIVED. GIVEN WITH THE SEED: THE CARDS: each row of YtebjdfpfbcbhnaaDoorRows.lean that lists a variable, with what it lists TIED to the program's text (the seventh form; the later family's looks); each row that meets fmt, with fmt's text TOLD by the authors' own Lean function (tested against real Go, not proved from fmt's source: count such statements apart). THE CARD IS WHAT COUNTS. Prove the row's statement (the work); the ties are given (YtebjdfpfbcbhnaaDoorTie.lean); close each card by the builder's one call (the guide's Derived/Test/ToyasCard.lean, 'card_holds'). Laid BY PROGRAM, IN A SANDBOX (cutbox-door.mjs). By AI agents, Wed Nov 11 2026. No macro, syntax, notation, axiom, sorry.
-/
import Derived.Test.YtebjdfpfbcbhnaaDoorRows
import GoSem.ClaimSeven
namespace Go.Proofs.YtebjdfpfbcbhnaaDoor
namespace Rows

/-- THE TIED CARD OF 'laws.FnFracOf'. -/
def fnFracOfCard : Claim7 := { stood := { row := fnFracOfRow, standIns := [], harness := (true, "548f876e8007222d94ada314593e681b292f5627e98e7a8aa737238a17cbe615"), looks := true }, kinds := [], alts := [], laidByText := true, laidKinds := [.sentinel], laidTests := true, laidLooks := .later }
def FnFracOfCardSaid : Prop := Claim7.holds Tryd.pinned (.plain (OpenSpec.ofChange fnFracOfSpec)) fnFracOfCard

/-- THE TIED CARD OF 'laws.FnFracOrder'. -/
def fnFracOrderCard : Claim7 := { stood := { row := fnFracOrderRow, standIns := [], harness := (true, "548f876e8007222d94ada314593e681b292f5627e98e7a8aa737238a17cbe615"), looks := true }, kinds := [], alts := [], laidByText := true, laidKinds := [.sentinel], laidTests := true, laidLooks := .later }
def FnFracOrderCardSaid : Prop := Claim7.holds Tryd.pinned (.plain (OpenSpec.ofChange fnFracOrderSpec)) fnFracOrderCard

/-- THE TIED CARD OF 'laws.FnFracThree'. -/
def fnFracThreeCard : Claim7 := { stood := { row := fnFracThreeRow, standIns := [], harness := (true, "548f876e8007222d94ada314593e681b292f5627e98e7a8aa737238a17cbe615"), looks := true }, kinds := [], alts := [], laidByText := true, laidKinds := [.sentinel], laidTests := true, laidLooks := .later }
def FnFracThreeCardSaid : Prop := Claim7.holds Tryd.pinned (.plain (OpenSpec.ofChange fnFracThreeSpec)) fnFracThreeCard

/-- THE TIED CARD OF 'laws.FnFracWhole'. -/
def fnFracWholeCard : Claim7 := { stood := { row := fnFracWholeRow, standIns := [], harness := (true, "548f876e8007222d94ada314593e681b292f5627e98e7a8aa737238a17cbe615"), looks := true }, kinds := [], alts := [], laidByText := true, laidKinds := [.sentinel], laidTests := true, laidLooks := .later }
def FnFracWholeCardSaid : Prop := Claim7.holds Tryd.pinned (.plain (OpenSpec.ofChange fnFracWholeSpec)) fnFracWholeCard

/-- THE TIED CARD OF 'laws.FnFracText'. -/
def fnFracTextCard : Claim7 := { stood := { row := fnFracTextRow, standIns := [], harness := (true, "548f876e8007222d94ada314593e681b292f5627e98e7a8aa737238a17cbe615"), looks := true }, kinds := [], alts := [], laidByText := true, laidKinds := [.data, .data, .data, .sentinel], laidTests := true, laidLooks := .later }
def FnFracTextCardSaid : Prop := Claim7.holds Tryd.pinned (.plain (OpenSpec.ofChange fnFracTextSpec)) fnFracTextCard

/-- THE TIED CARD OF 'laws.FnFracBad'. -/
def fnFracBadCard : Claim7 := { stood := { row := fnFracBadRow, standIns := [], harness := (true, "548f876e8007222d94ada314593e681b292f5627e98e7a8aa737238a17cbe615"), looks := true }, kinds := [], alts := [], laidByText := true, laidKinds := [.sentinel], laidTests := true, laidLooks := .later }
def FnFracBadCardSaid : Prop := Claim7.holds Tryd.pinned (.plain (OpenSpec.ofChange fnFracBadSpec)) fnFracBadCard

/-- THE TIED CARD OF 'laws.FnExactFracOk'. -/
def fnExactFracOkCard : Claim7 := { stood := { row := fnExactFracOkRow, standIns := [], harness := (true, "548f876e8007222d94ada314593e681b292f5627e98e7a8aa737238a17cbe615"), looks := true }, kinds := [], alts := [], laidByText := true, laidKinds := [.sentinel], laidTests := true, laidLooks := .later }
def FnExactFracOkCardSaid : Prop := Claim7.holds Tryd.pinned (.plain (OpenSpec.ofChange fnExactFracOkSpec)) fnExactFracOkCard

/-- THE TIED CARD OF 'laws.FnExactFracOf'. -/
def fnExactFracOfCard : Claim7 := { stood := { row := fnExactFracOfRow, standIns := [], harness := (true, "548f876e8007222d94ada314593e681b292f5627e98e7a8aa737238a17cbe615"), looks := true }, kinds := [], alts := [], laidByText := true, laidKinds := [.sentinel], laidTests := true, laidLooks := .later }
def FnExactFracOfCardSaid : Prop := Claim7.holds Tryd.pinned (.plain (OpenSpec.ofChange fnExactFracOfSpec)) fnExactFracOfCard

/-- THE TIED CARD OF 'laws.FnExactFracCmp'. -/
def fnExactFracCmpCard : Claim7 := { stood := { row := fnExactFracCmpRow, standIns := [], harness := (true, "548f876e8007222d94ada314593e681b292f5627e98e7a8aa737238a17cbe615"), looks := true }, kinds := [], alts := [], laidByText := true, laidKinds := [.sentinel], laidTests := true, laidLooks := .later }
def FnExactFracCmpCardSaid : Prop := Claim7.holds Tryd.pinned (.plain (OpenSpec.ofChange fnExactFracCmpSpec)) fnExactFracCmpCard

/-- THE TIED CARD OF 'laws.FnExactFracText'. -/
def fnExactFracTextCard : Claim7 := { stood := { row := fnExactFracTextRow, standIns := [], harness := (true, "548f876e8007222d94ada314593e681b292f5627e98e7a8aa737238a17cbe615"), looks := true }, kinds := [], alts := [], laidByText := true, laidKinds := [.data, .data, .data, .sentinel], laidTests := true, laidLooks := .later }
def FnExactFracTextCardSaid : Prop := Claim7.holds Tryd.pinned (.plain (OpenSpec.ofChange fnExactFracTextSpec)) fnExactFracTextCard

/-- THE SECOND FORM's CARD OF 'laws.FnFracOf'. -/
def fnFracOfUptoCard : Claim7 := { stood := { row := fnFracOfUptoRow, standIns := [], harness := (true, "548f876e8007222d94ada314593e681b292f5627e98e7a8aa737238a17cbe615"), looks := true }, kinds := [], alts := [], laidByText := true, laidKinds := [.sentinel], laidTests := true, laidLooks := .later }
def FnFracOfUptoCardSaid : Prop := Claim7.holds Tryd.pinned (.plain (OpenSpec.upto fnFracOfSpec)) fnFracOfUptoCard

/-- THE SECOND FORM's CARD OF 'laws.FnFracOrder'. -/
def fnFracOrderUptoCard : Claim7 := { stood := { row := fnFracOrderUptoRow, standIns := [], harness := (true, "548f876e8007222d94ada314593e681b292f5627e98e7a8aa737238a17cbe615"), looks := true }, kinds := [], alts := [], laidByText := true, laidKinds := [.sentinel], laidTests := true, laidLooks := .later }
def FnFracOrderUptoCardSaid : Prop := Claim7.holds Tryd.pinned (.plain (OpenSpec.upto fnFracOrderSpec)) fnFracOrderUptoCard

/-- THE SECOND FORM's CARD OF 'laws.FnFracThree'. -/
def fnFracThreeUptoCard : Claim7 := { stood := { row := fnFracThreeUptoRow, standIns := [], harness := (true, "548f876e8007222d94ada314593e681b292f5627e98e7a8aa737238a17cbe615"), looks := true }, kinds := [], alts := [], laidByText := true, laidKinds := [.sentinel], laidTests := true, laidLooks := .later }
def FnFracThreeUptoCardSaid : Prop := Claim7.holds Tryd.pinned (.plain (OpenSpec.upto fnFracThreeSpec)) fnFracThreeUptoCard

/-- THE SECOND FORM's CARD OF 'laws.FnFracWhole'. -/
def fnFracWholeUptoCard : Claim7 := { stood := { row := fnFracWholeUptoRow, standIns := [], harness := (true, "548f876e8007222d94ada314593e681b292f5627e98e7a8aa737238a17cbe615"), looks := true }, kinds := [], alts := [], laidByText := true, laidKinds := [.sentinel], laidTests := true, laidLooks := .later }
def FnFracWholeUptoCardSaid : Prop := Claim7.holds Tryd.pinned (.plain (OpenSpec.upto fnFracWholeSpec)) fnFracWholeUptoCard

/-- THE SECOND FORM's CARD OF 'laws.FnFracText'. -/
def fnFracTextUptoCard : Claim7 := { stood := { row := fnFracTextUptoRow, standIns := [], harness := (true, "548f876e8007222d94ada314593e681b292f5627e98e7a8aa737238a17cbe615"), looks := true }, kinds := [], alts := [], laidByText := true, laidKinds := [.data, .data, .data, .sentinel], laidTests := true, laidLooks := .later }
def FnFracTextUptoCardSaid : Prop := Claim7.holds Tryd.pinned (.plain (OpenSpec.upto fnFracTextSpec)) fnFracTextUptoCard

/-- THE SECOND FORM's CARD OF 'laws.FnFracBad'. -/
def fnFracBadUptoCard : Claim7 := { stood := { row := fnFracBadUptoRow, standIns := [], harness := (true, "548f876e8007222d94ada314593e681b292f5627e98e7a8aa737238a17cbe615"), looks := true }, kinds := [], alts := [], laidByText := true, laidKinds := [.sentinel], laidTests := true, laidLooks := .later }
def FnFracBadUptoCardSaid : Prop := Claim7.holds Tryd.pinned (.plain (OpenSpec.upto fnFracBadSpec)) fnFracBadUptoCard

/-- THE SECOND FORM's CARD OF 'laws.FnExactFracOk'. -/
def fnExactFracOkUptoCard : Claim7 := { stood := { row := fnExactFracOkUptoRow, standIns := [], harness := (true, "548f876e8007222d94ada314593e681b292f5627e98e7a8aa737238a17cbe615"), looks := true }, kinds := [], alts := [], laidByText := true, laidKinds := [.sentinel], laidTests := true, laidLooks := .later }
def FnExactFracOkUptoCardSaid : Prop := Claim7.holds Tryd.pinned (.plain (OpenSpec.upto fnExactFracOkSpec)) fnExactFracOkUptoCard

/-- THE SECOND FORM's CARD OF 'laws.FnExactFracOf'. -/
def fnExactFracOfUptoCard : Claim7 := { stood := { row := fnExactFracOfUptoRow, standIns := [], harness := (true, "548f876e8007222d94ada314593e681b292f5627e98e7a8aa737238a17cbe615"), looks := true }, kinds := [], alts := [], laidByText := true, laidKinds := [.sentinel], laidTests := true, laidLooks := .later }
def FnExactFracOfUptoCardSaid : Prop := Claim7.holds Tryd.pinned (.plain (OpenSpec.upto fnExactFracOfSpec)) fnExactFracOfUptoCard

/-- THE SECOND FORM's CARD OF 'laws.FnExactFracCmp'. -/
def fnExactFracCmpUptoCard : Claim7 := { stood := { row := fnExactFracCmpUptoRow, standIns := [], harness := (true, "548f876e8007222d94ada314593e681b292f5627e98e7a8aa737238a17cbe615"), looks := true }, kinds := [], alts := [], laidByText := true, laidKinds := [.sentinel], laidTests := true, laidLooks := .later }
def FnExactFracCmpUptoCardSaid : Prop := Claim7.holds Tryd.pinned (.plain (OpenSpec.upto fnExactFracCmpSpec)) fnExactFracCmpUptoCard

/-- THE SECOND FORM's CARD OF 'laws.FnExactFracText'. -/
def fnExactFracTextUptoCard : Claim7 := { stood := { row := fnExactFracTextUptoRow, standIns := [], harness := (true, "548f876e8007222d94ada314593e681b292f5627e98e7a8aa737238a17cbe615"), looks := true }, kinds := [], alts := [], laidByText := true, laidKinds := [.data, .data, .data, .sentinel], laidTests := true, laidLooks := .later }
def FnExactFracTextUptoCardSaid : Prop := Claim7.holds Tryd.pinned (.plain (OpenSpec.upto fnExactFracTextSpec)) fnExactFracTextUptoCard
end Rows
end Go.Proofs.YtebjdfpfbcbhnaaDoor
