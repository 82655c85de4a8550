/-
  DERIVED. GIVEN WITH THE SEED: THE CARDS: each row of YtlikfcfblkckaaaDoorRows.lean that lists a variable, with what it lists TIED to the program's text (the seventh form; the later family's looks); each row that meets fmt, with fmt's text TOLD by the authors' own Lean function (tested against real Go, not proved from fmt's source: count such statements apart). THE CARD IS WHAT COUNTS. Prove the row's statement (the work); the ties are given (YtlikfcfblkckaaaDoorTie.lean); close each card by the builder's one call (the guide's Derived/Test/ToyasCard.lean, 'card_holds'). Laid BY PROGRAM, IN A SANDBOX (cutbox-door.mjs). By AI agents, Wed Nov 11 2026. No macro, syntax, notation, axiom, sorry.
-/
import Derived.Test.YtlikfcfblkckaaaDoorRows
import GoSem.ClaimSeven
namespace Go.Proofs.YtlikfcfblkckaaaDoor
namespace Rows

/-- THE TIED CARD OF 'laws.FnPlateLess'. -/
def fnPlateLessCard : Claim7 := { stood := { row := fnPlateLessRow, standIns := [], harness := (true, "c92cf06971563287e3facc39872d5299b5d33c9835eeb7b57b05cbeab458b983"), looks := true }, kinds := [], alts := [], laidByText := true, laidKinds := [.sentinel], laidTests := true, laidLooks := .later }
def FnPlateLessCardSaid : Prop := Claim7.holds Tryd.pinned (.plain (OpenSpec.ofChange fnPlateLessSpec)) fnPlateLessCard

/-- THE TIED CARD OF 'laws.FnExactPlateFar'. -/
def fnExactPlateFarCard : Claim7 := { stood := { row := fnExactPlateFarRow, standIns := [], harness := (true, "c92cf06971563287e3facc39872d5299b5d33c9835eeb7b57b05cbeab458b983"), looks := true }, kinds := [], alts := [], laidByText := true, laidKinds := [.sentinel], laidTests := true, laidLooks := .later }
def FnExactPlateFarCardSaid : Prop := Claim7.holds Tryd.pinned (.plain (OpenSpec.ofChange fnExactPlateFarSpec)) fnExactPlateFarCard

/-- THE SECOND FORM's CARD OF 'laws.FnPlateLess'. -/
def fnPlateLessUptoCard : Claim7 := { stood := { row := fnPlateLessUptoRow, standIns := [], harness := (true, "c92cf06971563287e3facc39872d5299b5d33c9835eeb7b57b05cbeab458b983"), looks := true }, kinds := [], alts := [], laidByText := true, laidKinds := [.sentinel], laidTests := true, laidLooks := .later }
def FnPlateLessUptoCardSaid : Prop := Claim7.holds Tryd.pinned (.plain (OpenSpec.upto fnPlateLessSpec)) fnPlateLessUptoCard

/-- THE SECOND FORM's CARD OF 'laws.FnExactPlateFar'. -/
def fnExactPlateFarUptoCard : Claim7 := { stood := { row := fnExactPlateFarUptoRow, standIns := [], harness := (true, "c92cf06971563287e3facc39872d5299b5d33c9835eeb7b57b05cbeab458b983"), looks := true }, kinds := [], alts := [], laidByText := true, laidKinds := [.sentinel], laidTests := true, laidLooks := .later }
def FnExactPlateFarUptoCardSaid : Prop := Claim7.holds Tryd.pinned (.plain (OpenSpec.upto fnExactPlateFarSpec)) fnExactPlateFarUptoCard
end Rows
end Go.Proofs.YtlikfcfblkckaaaDoor
