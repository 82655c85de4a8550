/-
  DERIVED. GIVEN WITH THE SEED: THE CARDS: each row of YtfnhbdanfnpdeaaDoorRows.lean that lists a variable, with what it lists TIED to the program's text (the seventh form; the later family's looks); each row that meets fmt, with fmt's text TOLD by the authors' own Lean function (tested against real Go, not proved from fmt's source: count such statements apart). THE CARD IS WHAT COUNTS. Prove the row's statement (the work); the ties are given (YtfnhbdanfnpdeaaDoorTie.lean); close each card by the builder's one call (the guide's Derived/Test/ToyasCard.lean, 'card_holds'). Laid BY PROGRAM, IN A SANDBOX (cutbox-door.mjs). By AI agents, Wed Nov 11 2026. No macro, syntax, notation, axiom, sorry.
-/
import Derived.Test.YtfnhbdanfnpdeaaDoorRows
import GoSem.ClaimSeven
namespace Go.Proofs.YtfnhbdanfnpdeaaDoor
namespace Rows

/-- THE TIED CARD OF 'laws.FnExactLoopText'. -/
def fnExactLoopTextCard : Claim7 := { stood := { row := fnExactLoopTextRow, standIns := [], harness := (true, "6dd4b06735849329a82f29410919ae6e532d4d3c016cfc8182a56b9649085a6f"), looks := true }, kinds := [], alts := [], laidByText := true, laidKinds := [.data, .data, .data], laidTests := true, laidLooks := .later }
def FnExactLoopTextCardSaid : Prop := Claim7.holds Tryd.pinned (.plain (OpenSpec.ofChange fnExactLoopTextSpec)) fnExactLoopTextCard

/-- THE TIED CARD OF 'laws.FnExactLoopRead'. -/
def fnExactLoopReadCard : Claim7 := { stood := { row := fnExactLoopReadRow, standIns := [], harness := (true, "6dd4b06735849329a82f29410919ae6e532d4d3c016cfc8182a56b9649085a6f"), looks := true }, kinds := [], alts := [], laidByText := true, laidKinds := [.data, .data, .data, .data, .sentinel, .sentinel, .pinned], laidTests := true, laidLooks := .later }
def FnExactLoopReadCardSaid : Prop := Claim7.holds Tryd.pinned (.plain (OpenSpec.ofChange fnExactLoopReadSpec)) fnExactLoopReadCard

/-- THE TIED CARD OF 'laws.FnExactPlateText'. -/
def fnExactPlateTextCard : Claim7 := { stood := { row := fnExactPlateTextRow, standIns := [], harness := (true, "6dd4b06735849329a82f29410919ae6e532d4d3c016cfc8182a56b9649085a6f"), looks := true }, kinds := [], alts := [], laidByText := true, laidKinds := [.data, .data, .data], laidTests := true, laidLooks := .later }
def FnExactPlateTextCardSaid : Prop := Claim7.holds Tryd.pinned (.plain (OpenSpec.ofChange fnExactPlateTextSpec)) fnExactPlateTextCard

/-- THE TIED CARD OF 'laws.FnPlateLoop'. -/
def fnPlateLoopCard : Claim7 := { stood := { row := fnPlateLoopRow, standIns := [], harness := (true, "6dd4b06735849329a82f29410919ae6e532d4d3c016cfc8182a56b9649085a6f"), looks := true }, kinds := [], alts := [], laidByText := true, laidKinds := [.data, .data, .data], laidTests := true, laidLooks := .later }
def FnPlateLoopCardSaid : Prop := Claim7.holds Tryd.pinned (.plain (OpenSpec.ofChange fnPlateLoopSpec)) fnPlateLoopCard

/-- THE SECOND FORM's CARD OF 'laws.FnExactLoopText'. -/
def fnExactLoopTextUptoCard : Claim7 := { stood := { row := fnExactLoopTextUptoRow, standIns := [], harness := (true, "6dd4b06735849329a82f29410919ae6e532d4d3c016cfc8182a56b9649085a6f"), looks := true }, kinds := [], alts := [], laidByText := true, laidKinds := [.data, .data, .data], laidTests := true, laidLooks := .later }
def FnExactLoopTextUptoCardSaid : Prop := Claim7.holds Tryd.pinned (.plain (OpenSpec.upto fnExactLoopTextSpec)) fnExactLoopTextUptoCard

/-- THE SECOND FORM's CARD OF 'laws.FnExactLoopRead'. -/
def fnExactLoopReadUptoCard : Claim7 := { stood := { row := fnExactLoopReadUptoRow, standIns := [], harness := (true, "6dd4b06735849329a82f29410919ae6e532d4d3c016cfc8182a56b9649085a6f"), looks := true }, kinds := [], alts := [], laidByText := true, laidKinds := [.data, .data, .data, .data, .sentinel, .sentinel, .pinned], laidTests := true, laidLooks := .later }
def FnExactLoopReadUptoCardSaid : Prop := Claim7.holds Tryd.pinned (.plain (OpenSpec.upto fnExactLoopReadSpec)) fnExactLoopReadUptoCard

/-- THE SECOND FORM's CARD OF 'laws.FnExactPlateText'. -/
def fnExactPlateTextUptoCard : Claim7 := { stood := { row := fnExactPlateTextUptoRow, standIns := [], harness := (true, "6dd4b06735849329a82f29410919ae6e532d4d3c016cfc8182a56b9649085a6f"), looks := true }, kinds := [], alts := [], laidByText := true, laidKinds := [.data, .data, .data], laidTests := true, laidLooks := .later }
def FnExactPlateTextUptoCardSaid : Prop := Claim7.holds Tryd.pinned (.plain (OpenSpec.upto fnExactPlateTextSpec)) fnExactPlateTextUptoCard

/-- THE SECOND FORM's CARD OF 'laws.FnPlateLoop'. -/
def fnPlateLoopUptoCard : Claim7 := { stood := { row := fnPlateLoopUptoRow, standIns := [], harness := (true, "6dd4b06735849329a82f29410919ae6e532d4d3c016cfc8182a56b9649085a6f"), looks := true }, kinds := [], alts := [], laidByText := true, laidKinds := [.data, .data, .data], laidTests := true, laidLooks := .later }
def FnPlateLoopUptoCardSaid : Prop := Claim7.holds Tryd.pinned (.plain (OpenSpec.upto fnPlateLoopSpec)) fnPlateLoopUptoCard
end Rows
end Go.Proofs.YtfnhbdanfnpdeaaDoor
