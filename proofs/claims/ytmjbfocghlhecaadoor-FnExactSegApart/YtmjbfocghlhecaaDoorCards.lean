/-
  DERIVED. GIVEN WITH THE SEED: THE CARDS: each row of YtmjbfocghlhecaaDoorRows.lean that lists a variable, with what it lists TIED to the program's text (the seventh form; the later family's looks); each row that meets fmt, with fmt's text TOLD by the authors' own Lean function (tested against real Go, not proved from fmt's source: count such statements apart). THE CARD IS WHAT COUNTS. Prove the row's statement (the work); the ties are given (YtmjbfocghlhecaaDoorTie.lean); close each card by the builder's one call (the guide's Derived/Test/ToyasCard.lean, 'card_holds'). Laid BY PROGRAM, IN A SANDBOX (cutbox-door.mjs). By AI agents, Wed Nov 11 2026. No macro, syntax, notation, axiom, sorry.
-/
import Derived.Test.YtmjbfocghlhecaaDoorRows
import GoSem.ClaimSeven
namespace Go.Proofs.YtmjbfocghlhecaaDoor
namespace Rows

/-- THE TIED CARD OF 'laws.FnHasFar'. -/
def fnHasFarCard : Claim7 := { stood := { row := fnHasFarRow, standIns := [], harness := (true, "0f5ce889cfba3bb8e16f76039e26a6b243984de96c9c779a59901c6376e0da2c"), looks := true }, kinds := [], alts := [], laidByText := true, laidKinds := [.sentinel], laidTests := true, laidLooks := .later }
def FnHasFarCardSaid : Prop := Claim7.holds Tryd.pinned (.plain (OpenSpec.ofChange fnHasFarSpec)) fnHasFarCard

/-- THE TIED CARD OF 'laws.FnHasMirror'. -/
def fnHasMirrorCard : Claim7 := { stood := { row := fnHasMirrorRow, standIns := [], harness := (true, "0f5ce889cfba3bb8e16f76039e26a6b243984de96c9c779a59901c6376e0da2c"), looks := true }, kinds := [], alts := [], laidByText := true, laidKinds := [.sentinel], laidTests := true, laidLooks := .later }
def FnHasMirrorCardSaid : Prop := Claim7.holds Tryd.pinned (.plain (OpenSpec.ofChange fnHasMirrorSpec)) fnHasMirrorCard

/-- THE TIED CARD OF 'laws.FnMeetApart'. -/
def fnMeetApartCard : Claim7 := { stood := { row := fnMeetApartRow, standIns := [], harness := (true, "0f5ce889cfba3bb8e16f76039e26a6b243984de96c9c779a59901c6376e0da2c"), looks := true }, kinds := [], alts := [], laidByText := true, laidKinds := [.sentinel], laidTests := true, laidLooks := .later }
def FnMeetApartCardSaid : Prop := Claim7.holds Tryd.pinned (.plain (OpenSpec.ofChange fnMeetApartSpec)) fnMeetApartCard

/-- THE TIED CARD OF 'laws.FnFarEnds'. -/
def fnFarEndsCard : Claim7 := { stood := { row := fnFarEndsRow, standIns := [], harness := (true, "0f5ce889cfba3bb8e16f76039e26a6b243984de96c9c779a59901c6376e0da2c"), looks := true }, kinds := [], alts := [], laidByText := true, laidKinds := [.sentinel], laidTests := true, laidLooks := .later }
def FnFarEndsCardSaid : Prop := Claim7.holds Tryd.pinned (.plain (OpenSpec.ofChange fnFarEndsSpec)) fnFarEndsCard

/-- THE TIED CARD OF 'laws.FnFarLonger'. -/
def fnFarLongerCard : Claim7 := { stood := { row := fnFarLongerRow, standIns := [], harness := (true, "0f5ce889cfba3bb8e16f76039e26a6b243984de96c9c779a59901c6376e0da2c"), looks := true }, kinds := [], alts := [], laidByText := true, laidKinds := [.sentinel], laidTests := true, laidLooks := .later }
def FnFarLongerCardSaid : Prop := Claim7.holds Tryd.pinned (.plain (OpenSpec.ofChange fnFarLongerSpec)) fnFarLongerCard

/-- THE TIED CARD OF 'laws.FnFarAll'. -/
def fnFarAllCard : Claim7 := { stood := { row := fnFarAllRow, standIns := [], harness := (true, "0f5ce889cfba3bb8e16f76039e26a6b243984de96c9c779a59901c6376e0da2c"), looks := true }, kinds := [], alts := [], laidByText := true, laidKinds := [.sentinel], laidTests := true, laidLooks := .later }
def FnFarAllCardSaid : Prop := Claim7.holds Tryd.pinned (.plain (OpenSpec.ofChange fnFarAllSpec)) fnFarAllCard

/-- THE TIED CARD OF 'laws.FnApartEnds'. -/
def fnApartEndsCard : Claim7 := { stood := { row := fnApartEndsRow, standIns := [], harness := (true, "0f5ce889cfba3bb8e16f76039e26a6b243984de96c9c779a59901c6376e0da2c"), looks := true }, kinds := [], alts := [], laidByText := true, laidKinds := [.sentinel], laidTests := true, laidLooks := .later }
def FnApartEndsCardSaid : Prop := Claim7.holds Tryd.pinned (.plain (OpenSpec.ofChange fnApartEndsSpec)) fnApartEndsCard

/-- THE TIED CARD OF 'laws.FnFarShift'. -/
def fnFarShiftCard : Claim7 := { stood := { row := fnFarShiftRow, standIns := [], harness := (true, "0f5ce889cfba3bb8e16f76039e26a6b243984de96c9c779a59901c6376e0da2c"), looks := true }, kinds := [], alts := [], laidByText := true, laidKinds := [.sentinel], laidTests := true, laidLooks := .later }
def FnFarShiftCardSaid : Prop := Claim7.holds Tryd.pinned (.plain (OpenSpec.ofChange fnFarShiftSpec)) fnFarShiftCard

/-- THE TIED CARD OF 'laws.FnApartFar'. -/
def fnApartFarCard : Claim7 := { stood := { row := fnApartFarRow, standIns := [], harness := (true, "0f5ce889cfba3bb8e16f76039e26a6b243984de96c9c779a59901c6376e0da2c"), looks := true }, kinds := [], alts := [], laidByText := true, laidKinds := [.sentinel], laidTests := true, laidLooks := .later }
def FnApartFarCardSaid : Prop := Claim7.holds Tryd.pinned (.plain (OpenSpec.ofChange fnApartFarSpec)) fnApartFarCard

/-- THE TIED CARD OF 'laws.FnExactSegFar'. -/
def fnExactSegFarCard : Claim7 := { stood := { row := fnExactSegFarRow, standIns := [], harness := (true, "0f5ce889cfba3bb8e16f76039e26a6b243984de96c9c779a59901c6376e0da2c"), looks := true }, kinds := [], alts := [], laidByText := true, laidKinds := [.sentinel], laidTests := true, laidLooks := .later }
def FnExactSegFarCardSaid : Prop := Claim7.holds Tryd.pinned (.plain (OpenSpec.ofChange fnExactSegFarSpec)) fnExactSegFarCard

/-- THE TIED CARD OF 'laws.FnExactSegApart'. -/
def fnExactSegApartCard : Claim7 := { stood := { row := fnExactSegApartRow, standIns := [], harness := (true, "0f5ce889cfba3bb8e16f76039e26a6b243984de96c9c779a59901c6376e0da2c"), looks := true }, kinds := [], alts := [], laidByText := true, laidKinds := [.sentinel], laidTests := true, laidLooks := .later }
def FnExactSegApartCardSaid : Prop := Claim7.holds Tryd.pinned (.plain (OpenSpec.ofChange fnExactSegApartSpec)) fnExactSegApartCard

/-- THE SECOND FORM's CARD OF 'laws.FnHasFar'. -/
def fnHasFarUptoCard : Claim7 := { stood := { row := fnHasFarUptoRow, standIns := [], harness := (true, "0f5ce889cfba3bb8e16f76039e26a6b243984de96c9c779a59901c6376e0da2c"), looks := true }, kinds := [], alts := [], laidByText := true, laidKinds := [.sentinel], laidTests := true, laidLooks := .later }
def FnHasFarUptoCardSaid : Prop := Claim7.holds Tryd.pinned (.plain (OpenSpec.upto fnHasFarSpec)) fnHasFarUptoCard

/-- THE SECOND FORM's CARD OF 'laws.FnHasMirror'. -/
def fnHasMirrorUptoCard : Claim7 := { stood := { row := fnHasMirrorUptoRow, standIns := [], harness := (true, "0f5ce889cfba3bb8e16f76039e26a6b243984de96c9c779a59901c6376e0da2c"), looks := true }, kinds := [], alts := [], laidByText := true, laidKinds := [.sentinel], laidTests := true, laidLooks := .later }
def FnHasMirrorUptoCardSaid : Prop := Claim7.holds Tryd.pinned (.plain (OpenSpec.upto fnHasMirrorSpec)) fnHasMirrorUptoCard

/-- THE SECOND FORM's CARD OF 'laws.FnMeetApart'. -/
def fnMeetApartUptoCard : Claim7 := { stood := { row := fnMeetApartUptoRow, standIns := [], harness := (true, "0f5ce889cfba3bb8e16f76039e26a6b243984de96c9c779a59901c6376e0da2c"), looks := true }, kinds := [], alts := [], laidByText := true, laidKinds := [.sentinel], laidTests := true, laidLooks := .later }
def FnMeetApartUptoCardSaid : Prop := Claim7.holds Tryd.pinned (.plain (OpenSpec.upto fnMeetApartSpec)) fnMeetApartUptoCard

/-- THE SECOND FORM's CARD OF 'laws.FnFarEnds'. -/
def fnFarEndsUptoCard : Claim7 := { stood := { row := fnFarEndsUptoRow, standIns := [], harness := (true, "0f5ce889cfba3bb8e16f76039e26a6b243984de96c9c779a59901c6376e0da2c"), looks := true }, kinds := [], alts := [], laidByText := true, laidKinds := [.sentinel], laidTests := true, laidLooks := .later }
def FnFarEndsUptoCardSaid : Prop := Claim7.holds Tryd.pinned (.plain (OpenSpec.upto fnFarEndsSpec)) fnFarEndsUptoCard

/-- THE SECOND FORM's CARD OF 'laws.FnFarLonger'. -/
def fnFarLongerUptoCard : Claim7 := { stood := { row := fnFarLongerUptoRow, standIns := [], harness := (true, "0f5ce889cfba3bb8e16f76039e26a6b243984de96c9c779a59901c6376e0da2c"), looks := true }, kinds := [], alts := [], laidByText := true, laidKinds := [.sentinel], laidTests := true, laidLooks := .later }
def FnFarLongerUptoCardSaid : Prop := Claim7.holds Tryd.pinned (.plain (OpenSpec.upto fnFarLongerSpec)) fnFarLongerUptoCard

/-- THE SECOND FORM's CARD OF 'laws.FnFarAll'. -/
def fnFarAllUptoCard : Claim7 := { stood := { row := fnFarAllUptoRow, standIns := [], harness := (true, "0f5ce889cfba3bb8e16f76039e26a6b243984de96c9c779a59901c6376e0da2c"), looks := true }, kinds := [], alts := [], laidByText := true, laidKinds := [.sentinel], laidTests := true, laidLooks := .later }
def FnFarAllUptoCardSaid : Prop := Claim7.holds Tryd.pinned (.plain (OpenSpec.upto fnFarAllSpec)) fnFarAllUptoCard

/-- THE SECOND FORM's CARD OF 'laws.FnApartEnds'. -/
def fnApartEndsUptoCard : Claim7 := { stood := { row := fnApartEndsUptoRow, standIns := [], harness := (true, "0f5ce889cfba3bb8e16f76039e26a6b243984de96c9c779a59901c6376e0da2c"), looks := true }, kinds := [], alts := [], laidByText := true, laidKinds := [.sentinel], laidTests := true, laidLooks := .later }
def FnApartEndsUptoCardSaid : Prop := Claim7.holds Tryd.pinned (.plain (OpenSpec.upto fnApartEndsSpec)) fnApartEndsUptoCard

/-- THE SECOND FORM's CARD OF 'laws.FnFarShift'. -/
def fnFarShiftUptoCard : Claim7 := { stood := { row := fnFarShiftUptoRow, standIns := [], harness := (true, "0f5ce889cfba3bb8e16f76039e26a6b243984de96c9c779a59901c6376e0da2c"), looks := true }, kinds := [], alts := [], laidByText := true, laidKinds := [.sentinel], laidTests := true, laidLooks := .later }
def FnFarShiftUptoCardSaid : Prop := Claim7.holds Tryd.pinned (.plain (OpenSpec.upto fnFarShiftSpec)) fnFarShiftUptoCard

/-- THE SECOND FORM's CARD OF 'laws.FnApartFar'. -/
def fnApartFarUptoCard : Claim7 := { stood := { row := fnApartFarUptoRow, standIns := [], harness := (true, "0f5ce889cfba3bb8e16f76039e26a6b243984de96c9c779a59901c6376e0da2c"), looks := true }, kinds := [], alts := [], laidByText := true, laidKinds := [.sentinel], laidTests := true, laidLooks := .later }
def FnApartFarUptoCardSaid : Prop := Claim7.holds Tryd.pinned (.plain (OpenSpec.upto fnApartFarSpec)) fnApartFarUptoCard

/-- THE SECOND FORM's CARD OF 'laws.FnExactSegFar'. -/
def fnExactSegFarUptoCard : Claim7 := { stood := { row := fnExactSegFarUptoRow, standIns := [], harness := (true, "0f5ce889cfba3bb8e16f76039e26a6b243984de96c9c779a59901c6376e0da2c"), looks := true }, kinds := [], alts := [], laidByText := true, laidKinds := [.sentinel], laidTests := true, laidLooks := .later }
def FnExactSegFarUptoCardSaid : Prop := Claim7.holds Tryd.pinned (.plain (OpenSpec.upto fnExactSegFarSpec)) fnExactSegFarUptoCard

/-- THE SECOND FORM's CARD OF 'laws.FnExactSegApart'. -/
def fnExactSegApartUptoCard : Claim7 := { stood := { row := fnExactSegApartUptoRow, standIns := [], harness := (true, "0f5ce889cfba3bb8e16f76039e26a6b243984de96c9c779a59901c6376e0da2c"), looks := true }, kinds := [], alts := [], laidByText := true, laidKinds := [.sentinel], laidTests := true, laidLooks := .later }
def FnExactSegApartUptoCardSaid : Prop := Claim7.holds Tryd.pinned (.plain (OpenSpec.upto fnExactSegApartSpec)) fnExactSegApartUptoCard
end Rows
end Go.Proofs.YtmjbfocghlhecaaDoor
