/-
  No cell of these rows narrows 'for every input' (looked for: loops, veiled, ifaces, maps, wideKeys, modest, calm, conditions, laid).
  DERIVED. THE GIVEN ROWS OF THIS SEAT. 13 by the template 'for every input the law returns true; each argument reads behind the call as it read before'; 0 by the template 'total and deterministic' (their statements: YtmjbfocghlhecaaTotals.lean).
  GIVEN WITH THE SEED: the statements are not yours to turn. If you find one false, say at which input.
  Laid BY PROGRAM, IN A SANDBOX (cutbox-rows.mjs): the forced cells as the released guide's own fill.sh prints them over the translation 1f05ae2bf4692a66… (all of the seat's roots in one cut). By AI agents, Wed Nov 11 2026. No macro, syntax, notation, axiom, sorry.
-/
import Derived.Test.YtmjbfocghlhecaaChecked
import GoSem.Claim
import GoSem.ClaimJoined
import GoSem.ClaimMapViews
import Derived.JoinedTies
import Derived.KernelRfl
namespace Go.Proofs.Ytmjbfocghlhecaa
/- THE CELL 'sum', in the pinned program and in every row, IS THE sha256 OF THE DUMP (.gsa) THAT YtmjbfocghlhecaaProg.lean LOADS. Nothing in Lean hashes anything: it is a label: what it is worth is what the hold of that sum in a sandbox is worth. -/
noncomputable def Try.pinned : Pinned := { name := "ytmjbfocghlhecaa", sum := "1f05ae2bf4692a665ce857c750cbb23d6266ea0ed93ad1afe8f4b1cc1798874c", checked := Try.checked }
namespace Rows
def none {H : Type} : Left H := { results := [], args := [] }

/-- 'laws.FnPtGrid': WHATEVER THE INPUT: true; the input reads as it did. -/
def fnPtGridSpec : ChangeSpec := { name := "fnPtGrid", fn := fun _ => fun
  | [d] => { results := [.lit (.bool true)], args := [d] }
  | _ => none }
def fnPtGridRow : OpenClaim := { program := "ytmjbfocghlhecaa", sum := "1f05ae2bf4692a665ce857c750cbb23d6266ea0ed93ad1afe8f4b1cc1798874c", func := "loop.example/mortiser/laws.FnPtGrid", spec := "fnPtGrid", apart := false }
def FnPtGridSaid : Prop := fnPtGridRow.holds Try.pinned (OpenSpec.ofChange fnPtGridSpec)

/-- ITS FALSE NEIGHBOUR: 'it returns false'. Refute it at one input. -/
def fnPtGridWrong : ChangeSpec := { name := "fnPtGrid", fn := fun _ => fun
  | [d] => { results := [.lit (.bool false)], args := [d] }
  | _ => none }
def FnPtGridWrongFalsely : Prop := fnPtGridRow.holds Try.pinned (OpenSpec.ofChange fnPtGridWrong)

/-- 'laws.FnSegBack': WHATEVER THE INPUT: true; the input reads as it did. -/
def fnSegBackSpec : ChangeSpec := { name := "fnSegBack", fn := fun _ => fun
  | [d] => { results := [.lit (.bool true)], args := [d] }
  | _ => none }
def fnSegBackRow : OpenClaim := { program := "ytmjbfocghlhecaa", sum := "1f05ae2bf4692a665ce857c750cbb23d6266ea0ed93ad1afe8f4b1cc1798874c", func := "loop.example/mortiser/laws.FnSegBack", spec := "fnSegBack", apart := false }
def FnSegBackSaid : Prop := fnSegBackRow.holds Try.pinned (OpenSpec.ofChange fnSegBackSpec)

/-- ITS FALSE NEIGHBOUR: 'it returns false'. Refute it at one input. -/
def fnSegBackWrong : ChangeSpec := { name := "fnSegBack", fn := fun _ => fun
  | [d] => { results := [.lit (.bool false)], args := [d] }
  | _ => none }
def FnSegBackWrongFalsely : Prop := fnSegBackRow.holds Try.pinned (OpenSpec.ofChange fnSegBackWrong)

/-- 'laws.FnTurnRound': WHATEVER THE INPUT: true; the input reads as it did. -/
def fnTurnRoundSpec : ChangeSpec := { name := "fnTurnRound", fn := fun _ => fun
  | [d] => { results := [.lit (.bool true)], args := [d] }
  | _ => none }
def fnTurnRoundRow : OpenClaim := { program := "ytmjbfocghlhecaa", sum := "1f05ae2bf4692a665ce857c750cbb23d6266ea0ed93ad1afe8f4b1cc1798874c", func := "loop.example/mortiser/laws.FnTurnRound", spec := "fnTurnRound", apart := false }
def FnTurnRoundSaid : Prop := fnTurnRoundRow.holds Try.pinned (OpenSpec.ofChange fnTurnRoundSpec)

/-- ITS FALSE NEIGHBOUR: 'it returns false'. Refute it at one input. -/
def fnTurnRoundWrong : ChangeSpec := { name := "fnTurnRound", fn := fun _ => fun
  | [d] => { results := [.lit (.bool false)], args := [d] }
  | _ => none }
def FnTurnRoundWrongFalsely : Prop := fnTurnRoundRow.holds Try.pinned (OpenSpec.ofChange fnTurnRoundWrong)

/-- 'laws.FnTurnMirror': WHATEVER THE INPUT: true; the input reads as it did. -/
def fnTurnMirrorSpec : ChangeSpec := { name := "fnTurnMirror", fn := fun _ => fun
  | [d] => { results := [.lit (.bool true)], args := [d] }
  | _ => none }
def fnTurnMirrorRow : OpenClaim := { program := "ytmjbfocghlhecaa", sum := "1f05ae2bf4692a665ce857c750cbb23d6266ea0ed93ad1afe8f4b1cc1798874c", func := "loop.example/mortiser/laws.FnTurnMirror", spec := "fnTurnMirror", apart := false }
def FnTurnMirrorSaid : Prop := fnTurnMirrorRow.holds Try.pinned (OpenSpec.ofChange fnTurnMirrorSpec)

/-- ITS FALSE NEIGHBOUR: 'it returns false'. Refute it at one input. -/
def fnTurnMirrorWrong : ChangeSpec := { name := "fnTurnMirror", fn := fun _ => fun
  | [d] => { results := [.lit (.bool false)], args := [d] }
  | _ => none }
def FnTurnMirrorWrongFalsely : Prop := fnTurnMirrorRow.holds Try.pinned (OpenSpec.ofChange fnTurnMirrorWrong)

/-- 'laws.FnHasEnds': WHATEVER THE INPUT: true; the input reads as it did. -/
def fnHasEndsSpec : ChangeSpec := { name := "fnHasEnds", fn := fun _ => fun
  | [d] => { results := [.lit (.bool true)], args := [d] }
  | _ => none }
def fnHasEndsRow : OpenClaim := { program := "ytmjbfocghlhecaa", sum := "1f05ae2bf4692a665ce857c750cbb23d6266ea0ed93ad1afe8f4b1cc1798874c", func := "loop.example/mortiser/laws.FnHasEnds", spec := "fnHasEnds", apart := false }
def FnHasEndsSaid : Prop := fnHasEndsRow.holds Try.pinned (OpenSpec.ofChange fnHasEndsSpec)

/-- ITS FALSE NEIGHBOUR: 'it returns false'. Refute it at one input. -/
def fnHasEndsWrong : ChangeSpec := { name := "fnHasEnds", fn := fun _ => fun
  | [d] => { results := [.lit (.bool false)], args := [d] }
  | _ => none }
def FnHasEndsWrongFalsely : Prop := fnHasEndsRow.holds Try.pinned (OpenSpec.ofChange fnHasEndsWrong)

/-- 'laws.FnMeetBoth': WHATEVER THE INPUT: true; the input reads as it did. -/
def fnMeetBothSpec : ChangeSpec := { name := "fnMeetBoth", fn := fun _ => fun
  | [d] => { results := [.lit (.bool true)], args := [d] }
  | _ => none }
def fnMeetBothRow : OpenClaim := { program := "ytmjbfocghlhecaa", sum := "1f05ae2bf4692a665ce857c750cbb23d6266ea0ed93ad1afe8f4b1cc1798874c", func := "loop.example/mortiser/laws.FnMeetBoth", spec := "fnMeetBoth", apart := false }
def FnMeetBothSaid : Prop := fnMeetBothRow.holds Try.pinned (OpenSpec.ofChange fnMeetBothSpec)

/-- ITS FALSE NEIGHBOUR: 'it returns false'. Refute it at one input. -/
def fnMeetBothWrong : ChangeSpec := { name := "fnMeetBoth", fn := fun _ => fun
  | [d] => { results := [.lit (.bool false)], args := [d] }
  | _ => none }
def FnMeetBothWrongFalsely : Prop := fnMeetBothRow.holds Try.pinned (OpenSpec.ofChange fnMeetBothWrong)

/-- 'laws.FnMeetHas': WHATEVER THE INPUT: true; the input reads as it did. -/
def fnMeetHasSpec : ChangeSpec := { name := "fnMeetHas", fn := fun _ => fun
  | [d] => { results := [.lit (.bool true)], args := [d] }
  | _ => none }
def fnMeetHasRow : OpenClaim := { program := "ytmjbfocghlhecaa", sum := "1f05ae2bf4692a665ce857c750cbb23d6266ea0ed93ad1afe8f4b1cc1798874c", func := "loop.example/mortiser/laws.FnMeetHas", spec := "fnMeetHas", apart := false }
def FnMeetHasSaid : Prop := fnMeetHasRow.holds Try.pinned (OpenSpec.ofChange fnMeetHasSpec)

/-- ITS FALSE NEIGHBOUR: 'it returns false'. Refute it at one input. -/
def fnMeetHasWrong : ChangeSpec := { name := "fnMeetHas", fn := fun _ => fun
  | [d] => { results := [.lit (.bool false)], args := [d] }
  | _ => none }
def FnMeetHasWrongFalsely : Prop := fnMeetHasRow.holds Try.pinned (OpenSpec.ofChange fnMeetHasWrong)

/-- 'laws.FnMeetParts': WHATEVER THE INPUT: true; the input reads as it did. -/
def fnMeetPartsSpec : ChangeSpec := { name := "fnMeetParts", fn := fun _ => fun
  | [d1, d2] => { results := [.lit (.bool true)], args := [d1, d2] }
  | _ => none }
def fnMeetPartsRow : OpenClaim := { program := "ytmjbfocghlhecaa", sum := "1f05ae2bf4692a665ce857c750cbb23d6266ea0ed93ad1afe8f4b1cc1798874c", func := "loop.example/mortiser/laws.FnMeetParts", spec := "fnMeetParts", apart := false }
def FnMeetPartsSaid : Prop := fnMeetPartsRow.holds Try.pinned (OpenSpec.ofChange fnMeetPartsSpec)

/-- ITS FALSE NEIGHBOUR: 'it returns false'. Refute it at one input. -/
def fnMeetPartsWrong : ChangeSpec := { name := "fnMeetParts", fn := fun _ => fun
  | [d1, d2] => { results := [.lit (.bool false)], args := [d1, d2] }
  | _ => none }
def FnMeetPartsWrongFalsely : Prop := fnMeetPartsRow.holds Try.pinned (OpenSpec.ofChange fnMeetPartsWrong)

/-- 'laws.FnExactPtOk': WHATEVER THE INPUT: true; the input reads as it did. -/
def fnExactPtOkSpec : ChangeSpec := { name := "fnExactPtOk", fn := fun _ => fun
  | [d] => { results := [.lit (.bool true)], args := [d] }
  | _ => none }
def fnExactPtOkRow : OpenClaim := { program := "ytmjbfocghlhecaa", sum := "1f05ae2bf4692a665ce857c750cbb23d6266ea0ed93ad1afe8f4b1cc1798874c", func := "loop.example/mortiser/laws.FnExactPtOk", spec := "fnExactPtOk", apart := false }
def FnExactPtOkSaid : Prop := fnExactPtOkRow.holds Try.pinned (OpenSpec.ofChange fnExactPtOkSpec)

/-- ITS FALSE NEIGHBOUR: 'it returns false'. Refute it at one input. -/
def fnExactPtOkWrong : ChangeSpec := { name := "fnExactPtOk", fn := fun _ => fun
  | [d] => { results := [.lit (.bool false)], args := [d] }
  | _ => none }
def FnExactPtOkWrongFalsely : Prop := fnExactPtOkRow.holds Try.pinned (OpenSpec.ofChange fnExactPtOkWrong)

/-- 'laws.FnExactSegOk': WHATEVER THE INPUT: true; the input reads as it did. -/
def fnExactSegOkSpec : ChangeSpec := { name := "fnExactSegOk", fn := fun _ => fun
  | [d] => { results := [.lit (.bool true)], args := [d] }
  | _ => none }
def fnExactSegOkRow : OpenClaim := { program := "ytmjbfocghlhecaa", sum := "1f05ae2bf4692a665ce857c750cbb23d6266ea0ed93ad1afe8f4b1cc1798874c", func := "loop.example/mortiser/laws.FnExactSegOk", spec := "fnExactSegOk", apart := false }
def FnExactSegOkSaid : Prop := fnExactSegOkRow.holds Try.pinned (OpenSpec.ofChange fnExactSegOkSpec)

/-- ITS FALSE NEIGHBOUR: 'it returns false'. Refute it at one input. -/
def fnExactSegOkWrong : ChangeSpec := { name := "fnExactSegOk", fn := fun _ => fun
  | [d] => { results := [.lit (.bool false)], args := [d] }
  | _ => none }
def FnExactSegOkWrongFalsely : Prop := fnExactSegOkRow.holds Try.pinned (OpenSpec.ofChange fnExactSegOkWrong)

/-- 'laws.FnExactSegTurn': WHATEVER THE INPUT: true; the input reads as it did. -/
def fnExactSegTurnSpec : ChangeSpec := { name := "fnExactSegTurn", fn := fun _ => fun
  | [d1, d2, d3] => { results := [.lit (.bool true)], args := [d1, d2, d3] }
  | _ => none }
def fnExactSegTurnRow : OpenClaim := { program := "ytmjbfocghlhecaa", sum := "1f05ae2bf4692a665ce857c750cbb23d6266ea0ed93ad1afe8f4b1cc1798874c", func := "loop.example/mortiser/laws.FnExactSegTurn", spec := "fnExactSegTurn", apart := false }
def FnExactSegTurnSaid : Prop := fnExactSegTurnRow.holds Try.pinned (OpenSpec.ofChange fnExactSegTurnSpec)

/-- ITS FALSE NEIGHBOUR: 'it returns false'. Refute it at one input. -/
def fnExactSegTurnWrong : ChangeSpec := { name := "fnExactSegTurn", fn := fun _ => fun
  | [d1, d2, d3] => { results := [.lit (.bool false)], args := [d1, d2, d3] }
  | _ => none }
def FnExactSegTurnWrongFalsely : Prop := fnExactSegTurnRow.holds Try.pinned (OpenSpec.ofChange fnExactSegTurnWrong)

/-- 'laws.FnExactSegHas': WHATEVER THE INPUT: true; the input reads as it did. -/
def fnExactSegHasSpec : ChangeSpec := { name := "fnExactSegHas", fn := fun _ => fun
  | [d1, d2] => { results := [.lit (.bool true)], args := [d1, d2] }
  | _ => none }
def fnExactSegHasRow : OpenClaim := { program := "ytmjbfocghlhecaa", sum := "1f05ae2bf4692a665ce857c750cbb23d6266ea0ed93ad1afe8f4b1cc1798874c", func := "loop.example/mortiser/laws.FnExactSegHas", spec := "fnExactSegHas", apart := false }
def FnExactSegHasSaid : Prop := fnExactSegHasRow.holds Try.pinned (OpenSpec.ofChange fnExactSegHasSpec)

/-- ITS FALSE NEIGHBOUR: 'it returns false'. Refute it at one input. -/
def fnExactSegHasWrong : ChangeSpec := { name := "fnExactSegHas", fn := fun _ => fun
  | [d1, d2] => { results := [.lit (.bool false)], args := [d1, d2] }
  | _ => none }
def FnExactSegHasWrongFalsely : Prop := fnExactSegHasRow.holds Try.pinned (OpenSpec.ofChange fnExactSegHasWrong)

/-- 'laws.FnExactSegMeet': WHATEVER THE INPUT: true; the input reads as it did. -/
def fnExactSegMeetSpec : ChangeSpec := { name := "fnExactSegMeet", fn := fun _ => fun
  | [d1, d2] => { results := [.lit (.bool true)], args := [d1, d2] }
  | _ => none }
def fnExactSegMeetRow : OpenClaim := { program := "ytmjbfocghlhecaa", sum := "1f05ae2bf4692a665ce857c750cbb23d6266ea0ed93ad1afe8f4b1cc1798874c", func := "loop.example/mortiser/laws.FnExactSegMeet", spec := "fnExactSegMeet", apart := false }
def FnExactSegMeetSaid : Prop := fnExactSegMeetRow.holds Try.pinned (OpenSpec.ofChange fnExactSegMeetSpec)

/-- ITS FALSE NEIGHBOUR: 'it returns false'. Refute it at one input. -/
def fnExactSegMeetWrong : ChangeSpec := { name := "fnExactSegMeet", fn := fun _ => fun
  | [d1, d2] => { results := [.lit (.bool false)], args := [d1, d2] }
  | _ => none }
def FnExactSegMeetWrongFalsely : Prop := fnExactSegMeetRow.holds Try.pinned (OpenSpec.ofChange fnExactSegMeetWrong)

/- THE SECOND FORM. 'bulk': how many values and letters a reading holds, each counted each time it is reached (what is shared counts as often as it is met; a slice's spare places count too). A statement '..UptoSaid' is the law's where the arguments, and the package variables that the reading takes, are together of bulk at most 1048576: NARROWER than '..Said'. Prove '..Said' where nothing that the law and all that it calls make is longer than what came in: it says more and counts as full. Else prove '..UptoSaid'. A law counts once. -/
mutual
def uptoBulk {H : Type} : DataW H → Nat
  | .lit (.string bytes) => bytes.length + 1
  | .lit _ => 1
  | .nil => 1
  | .ptr d => uptoBulk d + 1
  | .slice elems spare => uptoBulkAll elems + uptoBulkAll spare + 1
  | .agg parts => uptoBulkAll parts + 1
  | .iface _ d => uptoBulk d + 1
  | .map entries => uptoBulkEntries entries + 1
  | .held _ => 1
def uptoBulkAll {H : Type} : List (DataW H) → Nat
  | [] => 0
  | d :: r => uptoBulk d + uptoBulkAll r
def uptoBulkEntries {H : Type} : List (Lit × DataW H) → Nat
  | [] => 0
  | x :: r => uptoBulkEntry x + uptoBulkEntries r
def uptoBulkEntry {H : Type} : Lit × DataW H → Nat
  | (.string bytes, d) => bytes.length + uptoBulk d + 1
  | (_, d) => uptoBulk d + 1
 end
def uptoSmall : (H : Type) → List (DataW H) → Bool := fun _ ds => decide (uptoBulkAll ds ≤ 1048576)
def OpenSpec.upto (s : _root_.Go.ChangeSpec) : _root_.Go.OpenSpec := { _root_.Go.OpenSpec.ofChange s with cond := some uptoSmall }

/-- 'laws.FnPtGrid', WHERE WHAT IT READS IS OF BULK AT MOST 1048576: true; the input reads as it did. -/
def fnPtGridUptoRow : OpenClaim := { program := "ytmjbfocghlhecaa", sum := "1f05ae2bf4692a665ce857c750cbb23d6266ea0ed93ad1afe8f4b1cc1798874c", func := "loop.example/mortiser/laws.FnPtGrid", spec := "fnPtGrid", apart := false, narrowed := true }
def FnPtGridUptoSaid : Prop := fnPtGridUptoRow.holds Try.pinned (OpenSpec.upto fnPtGridSpec)

/-- 'laws.FnSegBack', WHERE WHAT IT READS IS OF BULK AT MOST 1048576: true; the input reads as it did. -/
def fnSegBackUptoRow : OpenClaim := { program := "ytmjbfocghlhecaa", sum := "1f05ae2bf4692a665ce857c750cbb23d6266ea0ed93ad1afe8f4b1cc1798874c", func := "loop.example/mortiser/laws.FnSegBack", spec := "fnSegBack", apart := false, narrowed := true }
def FnSegBackUptoSaid : Prop := fnSegBackUptoRow.holds Try.pinned (OpenSpec.upto fnSegBackSpec)

/-- 'laws.FnTurnRound', WHERE WHAT IT READS IS OF BULK AT MOST 1048576: true; the input reads as it did. -/
def fnTurnRoundUptoRow : OpenClaim := { program := "ytmjbfocghlhecaa", sum := "1f05ae2bf4692a665ce857c750cbb23d6266ea0ed93ad1afe8f4b1cc1798874c", func := "loop.example/mortiser/laws.FnTurnRound", spec := "fnTurnRound", apart := false, narrowed := true }
def FnTurnRoundUptoSaid : Prop := fnTurnRoundUptoRow.holds Try.pinned (OpenSpec.upto fnTurnRoundSpec)

/-- 'laws.FnTurnMirror', WHERE WHAT IT READS IS OF BULK AT MOST 1048576: true; the input reads as it did. -/
def fnTurnMirrorUptoRow : OpenClaim := { program := "ytmjbfocghlhecaa", sum := "1f05ae2bf4692a665ce857c750cbb23d6266ea0ed93ad1afe8f4b1cc1798874c", func := "loop.example/mortiser/laws.FnTurnMirror", spec := "fnTurnMirror", apart := false, narrowed := true }
def FnTurnMirrorUptoSaid : Prop := fnTurnMirrorUptoRow.holds Try.pinned (OpenSpec.upto fnTurnMirrorSpec)

/-- 'laws.FnHasEnds', WHERE WHAT IT READS IS OF BULK AT MOST 1048576: true; the input reads as it did. -/
def fnHasEndsUptoRow : OpenClaim := { program := "ytmjbfocghlhecaa", sum := "1f05ae2bf4692a665ce857c750cbb23d6266ea0ed93ad1afe8f4b1cc1798874c", func := "loop.example/mortiser/laws.FnHasEnds", spec := "fnHasEnds", apart := false, narrowed := true }
def FnHasEndsUptoSaid : Prop := fnHasEndsUptoRow.holds Try.pinned (OpenSpec.upto fnHasEndsSpec)

/-- 'laws.FnMeetBoth', WHERE WHAT IT READS IS OF BULK AT MOST 1048576: true; the input reads as it did. -/
def fnMeetBothUptoRow : OpenClaim := { program := "ytmjbfocghlhecaa", sum := "1f05ae2bf4692a665ce857c750cbb23d6266ea0ed93ad1afe8f4b1cc1798874c", func := "loop.example/mortiser/laws.FnMeetBoth", spec := "fnMeetBoth", apart := false, narrowed := true }
def FnMeetBothUptoSaid : Prop := fnMeetBothUptoRow.holds Try.pinned (OpenSpec.upto fnMeetBothSpec)

/-- 'laws.FnMeetHas', WHERE WHAT IT READS IS OF BULK AT MOST 1048576: true; the input reads as it did. -/
def fnMeetHasUptoRow : OpenClaim := { program := "ytmjbfocghlhecaa", sum := "1f05ae2bf4692a665ce857c750cbb23d6266ea0ed93ad1afe8f4b1cc1798874c", func := "loop.example/mortiser/laws.FnMeetHas", spec := "fnMeetHas", apart := false, narrowed := true }
def FnMeetHasUptoSaid : Prop := fnMeetHasUptoRow.holds Try.pinned (OpenSpec.upto fnMeetHasSpec)

/-- 'laws.FnMeetParts', WHERE WHAT IT READS IS OF BULK AT MOST 1048576: true; the input reads as it did. -/
def fnMeetPartsUptoRow : OpenClaim := { program := "ytmjbfocghlhecaa", sum := "1f05ae2bf4692a665ce857c750cbb23d6266ea0ed93ad1afe8f4b1cc1798874c", func := "loop.example/mortiser/laws.FnMeetParts", spec := "fnMeetParts", apart := false, narrowed := true }
def FnMeetPartsUptoSaid : Prop := fnMeetPartsUptoRow.holds Try.pinned (OpenSpec.upto fnMeetPartsSpec)

/-- 'laws.FnExactPtOk', WHERE WHAT IT READS IS OF BULK AT MOST 1048576: true; the input reads as it did. -/
def fnExactPtOkUptoRow : OpenClaim := { program := "ytmjbfocghlhecaa", sum := "1f05ae2bf4692a665ce857c750cbb23d6266ea0ed93ad1afe8f4b1cc1798874c", func := "loop.example/mortiser/laws.FnExactPtOk", spec := "fnExactPtOk", apart := false, narrowed := true }
def FnExactPtOkUptoSaid : Prop := fnExactPtOkUptoRow.holds Try.pinned (OpenSpec.upto fnExactPtOkSpec)

/-- 'laws.FnExactSegOk', WHERE WHAT IT READS IS OF BULK AT MOST 1048576: true; the input reads as it did. -/
def fnExactSegOkUptoRow : OpenClaim := { program := "ytmjbfocghlhecaa", sum := "1f05ae2bf4692a665ce857c750cbb23d6266ea0ed93ad1afe8f4b1cc1798874c", func := "loop.example/mortiser/laws.FnExactSegOk", spec := "fnExactSegOk", apart := false, narrowed := true }
def FnExactSegOkUptoSaid : Prop := fnExactSegOkUptoRow.holds Try.pinned (OpenSpec.upto fnExactSegOkSpec)

/-- 'laws.FnExactSegTurn', WHERE WHAT IT READS IS OF BULK AT MOST 1048576: true; the input reads as it did. -/
def fnExactSegTurnUptoRow : OpenClaim := { program := "ytmjbfocghlhecaa", sum := "1f05ae2bf4692a665ce857c750cbb23d6266ea0ed93ad1afe8f4b1cc1798874c", func := "loop.example/mortiser/laws.FnExactSegTurn", spec := "fnExactSegTurn", apart := false, narrowed := true }
def FnExactSegTurnUptoSaid : Prop := fnExactSegTurnUptoRow.holds Try.pinned (OpenSpec.upto fnExactSegTurnSpec)

/-- 'laws.FnExactSegHas', WHERE WHAT IT READS IS OF BULK AT MOST 1048576: true; the input reads as it did. -/
def fnExactSegHasUptoRow : OpenClaim := { program := "ytmjbfocghlhecaa", sum := "1f05ae2bf4692a665ce857c750cbb23d6266ea0ed93ad1afe8f4b1cc1798874c", func := "loop.example/mortiser/laws.FnExactSegHas", spec := "fnExactSegHas", apart := false, narrowed := true }
def FnExactSegHasUptoSaid : Prop := fnExactSegHasUptoRow.holds Try.pinned (OpenSpec.upto fnExactSegHasSpec)

/-- 'laws.FnExactSegMeet', WHERE WHAT IT READS IS OF BULK AT MOST 1048576: true; the input reads as it did. -/
def fnExactSegMeetUptoRow : OpenClaim := { program := "ytmjbfocghlhecaa", sum := "1f05ae2bf4692a665ce857c750cbb23d6266ea0ed93ad1afe8f4b1cc1798874c", func := "loop.example/mortiser/laws.FnExactSegMeet", spec := "fnExactSegMeet", apart := false, narrowed := true }
def FnExactSegMeetUptoSaid : Prop := fnExactSegMeetUptoRow.holds Try.pinned (OpenSpec.upto fnExactSegMeetSpec)

end Rows
end Go.Proofs.Ytmjbfocghlhecaa
