/-
  No cell of these rows narrows 'for every input' (looked for: loops, veiled, ifaces, maps, wideKeys, modest, calm, conditions, laid).
  DERIVED. THE GIVEN ROWS OF THIS SEAT. 10 by the template 'for every input the law returns true; each argument reads behind the call as it read before'; 0 by the template 'total and deterministic' (their statements: YtempleochkohlaaTotals.lean).
  GIVEN WITH THE SEED: the statements are not yours to turn. If you find one false, say at which input.
  Laid BY PROGRAM, IN A SANDBOX (cutbox-rows.mjs): the forced cells as the released guide's own fill.sh prints them over the translation 37b1c4954d7d6b94… (all of the seat's roots in one cut). By AI agents, Wed Nov 11 2026. No macro, syntax, notation, axiom, sorry.
-/
import Derived.Test.YtempleochkohlaaChecked
import GoSem.Claim
import GoSem.ClaimJoined
import GoSem.ClaimMapViews
import Derived.JoinedTies
import Derived.KernelRfl
namespace Go.Proofs.Ytempleochkohlaa
/- THE CELL 'sum', in the pinned program and in every row, IS THE sha256 OF THE DUMP (.gsa) THAT YtempleochkohlaaProg.lean LOADS. Nothing in Lean hashes anything: it is a label: what it is worth is what the hold of that sum in a sandbox is worth. -/
noncomputable def Try.pinned : Pinned := { name := "ytempleochkohlaa", sum := "37b1c4954d7d6b94c906cdd3842e30b63ef19f0bb9d15082ec186b3a20a6db7c", checked := Try.checked }
namespace Rows
def none {H : Type} : Left H := { results := [], args := [] }

/-- 'laws.FnTurnRound': WHATEVER THE INPUT: true; the input reads as it did. -/
def fnTurnRoundSpec : ChangeSpec := { name := "fnTurnRound", fn := fun _ => fun
  | [d] => { results := [.lit (.bool true)], args := [d] }
  | _ => none }
def fnTurnRoundRow : OpenClaim := { program := "ytempleochkohlaa", sum := "37b1c4954d7d6b94c906cdd3842e30b63ef19f0bb9d15082ec186b3a20a6db7c", func := "loop.example/mortiser/laws.FnTurnRound", spec := "fnTurnRound", apart := false }
def FnTurnRoundSaid : Prop := fnTurnRoundRow.holds Try.pinned (OpenSpec.ofChange fnTurnRoundSpec)

/-- ITS FALSE NEIGHBOUR: 'it returns false'. Refute it at one input. -/
def fnTurnRoundWrong : ChangeSpec := { name := "fnTurnRound", fn := fun _ => fun
  | [d] => { results := [.lit (.bool false)], args := [d] }
  | _ => none }
def FnTurnRoundWrongFalsely : Prop := fnTurnRoundRow.holds Try.pinned (OpenSpec.ofChange fnTurnRoundWrong)

/-- 'laws.FnTurnMirror': WHATEVER THE INPUT: true; the input reads as it did. -/
def fnTurnMirrorSpec : ChangeSpec := { name := "fnTurnMirror", fn := fun _ => fun
  | [d] => { results := [.lit (.bool true)], args := [d] }
  | _ => none }
def fnTurnMirrorRow : OpenClaim := { program := "ytempleochkohlaa", sum := "37b1c4954d7d6b94c906cdd3842e30b63ef19f0bb9d15082ec186b3a20a6db7c", func := "loop.example/mortiser/laws.FnTurnMirror", spec := "fnTurnMirror", apart := false }
def FnTurnMirrorSaid : Prop := fnTurnMirrorRow.holds Try.pinned (OpenSpec.ofChange fnTurnMirrorSpec)

/-- ITS FALSE NEIGHBOUR: 'it returns false'. Refute it at one input. -/
def fnTurnMirrorWrong : ChangeSpec := { name := "fnTurnMirror", fn := fun _ => fun
  | [d] => { results := [.lit (.bool false)], args := [d] }
  | _ => none }
def FnTurnMirrorWrongFalsely : Prop := fnTurnMirrorRow.holds Try.pinned (OpenSpec.ofChange fnTurnMirrorWrong)

/-- 'laws.FnLoopTwice': WHATEVER THE INPUT: true; the input reads as it did. -/
def fnLoopTwiceSpec : ChangeSpec := { name := "fnLoopTwice", fn := fun _ => fun
  | [d1, d2] => { results := [.lit (.bool true)], args := [d1, d2] }
  | _ => none }
def fnLoopTwiceRow : OpenClaim := { program := "ytempleochkohlaa", sum := "37b1c4954d7d6b94c906cdd3842e30b63ef19f0bb9d15082ec186b3a20a6db7c", func := "loop.example/mortiser/laws.FnLoopTwice", spec := "fnLoopTwice", unfollowed := true, recurses := true, apart := false }
def FnLoopTwiceSaid : Prop := fnLoopTwiceRow.holds Try.pinned (OpenSpec.ofChange fnLoopTwiceSpec)

/-- ITS FALSE NEIGHBOUR: 'it returns false'. Refute it at one input. -/
def fnLoopTwiceWrong : ChangeSpec := { name := "fnLoopTwice", fn := fun _ => fun
  | [d1, d2] => { results := [.lit (.bool false)], args := [d1, d2] }
  | _ => none }
def FnLoopTwiceWrongFalsely : Prop := fnLoopTwiceRow.holds Try.pinned (OpenSpec.ofChange fnLoopTwiceWrong)

/-- 'laws.FnLoopInOn': WHATEVER THE INPUT: true; the input reads as it did. -/
def fnLoopInOnSpec : ChangeSpec := { name := "fnLoopInOn", fn := fun _ => fun
  | [d1, d2] => { results := [.lit (.bool true)], args := [d1, d2] }
  | _ => none }
def fnLoopInOnRow : OpenClaim := { program := "ytempleochkohlaa", sum := "37b1c4954d7d6b94c906cdd3842e30b63ef19f0bb9d15082ec186b3a20a6db7c", func := "loop.example/mortiser/laws.FnLoopInOn", spec := "fnLoopInOn", unfollowed := true, recurses := true, apart := false }
def FnLoopInOnSaid : Prop := fnLoopInOnRow.holds Try.pinned (OpenSpec.ofChange fnLoopInOnSpec)

/-- ITS FALSE NEIGHBOUR: 'it returns false'. Refute it at one input. -/
def fnLoopInOnWrong : ChangeSpec := { name := "fnLoopInOn", fn := fun _ => fun
  | [d1, d2] => { results := [.lit (.bool false)], args := [d1, d2] }
  | _ => none }
def FnLoopInOnWrongFalsely : Prop := fnLoopInOnRow.holds Try.pinned (OpenSpec.ofChange fnLoopInOnWrong)

/-- 'laws.FnLoopCross': WHATEVER THE INPUT: true; the input reads as it did. -/
def fnLoopCrossSpec : ChangeSpec := { name := "fnLoopCross", fn := fun _ => fun
  | [d1, d2] => { results := [.lit (.bool true)], args := [d1, d2] }
  | _ => none }
def fnLoopCrossRow : OpenClaim := { program := "ytempleochkohlaa", sum := "37b1c4954d7d6b94c906cdd3842e30b63ef19f0bb9d15082ec186b3a20a6db7c", func := "loop.example/mortiser/laws.FnLoopCross", spec := "fnLoopCross", unfollowed := true, recurses := true, apart := false }
def FnLoopCrossSaid : Prop := fnLoopCrossRow.holds Try.pinned (OpenSpec.ofChange fnLoopCrossSpec)

/-- ITS FALSE NEIGHBOUR: 'it returns false'. Refute it at one input. -/
def fnLoopCrossWrong : ChangeSpec := { name := "fnLoopCross", fn := fun _ => fun
  | [d1, d2] => { results := [.lit (.bool false)], args := [d1, d2] }
  | _ => none }
def FnLoopCrossWrongFalsely : Prop := fnLoopCrossRow.holds Try.pinned (OpenSpec.ofChange fnLoopCrossWrong)

/-- 'laws.FnLoopStay': WHATEVER THE INPUT: true; the input reads as it did. -/
def fnLoopStaySpec : ChangeSpec := { name := "fnLoopStay", fn := fun _ => fun
  | [d1, d2] => { results := [.lit (.bool true)], args := [d1, d2] }
  | _ => none }
def fnLoopStayRow : OpenClaim := { program := "ytempleochkohlaa", sum := "37b1c4954d7d6b94c906cdd3842e30b63ef19f0bb9d15082ec186b3a20a6db7c", func := "loop.example/mortiser/laws.FnLoopStay", spec := "fnLoopStay", unfollowed := true, recurses := true, apart := false }
def FnLoopStaySaid : Prop := fnLoopStayRow.holds Try.pinned (OpenSpec.ofChange fnLoopStaySpec)

/-- ITS FALSE NEIGHBOUR: 'it returns false'. Refute it at one input. -/
def fnLoopStayWrong : ChangeSpec := { name := "fnLoopStay", fn := fun _ => fun
  | [d1, d2] => { results := [.lit (.bool false)], args := [d1, d2] }
  | _ => none }
def FnLoopStayWrongFalsely : Prop := fnLoopStayRow.holds Try.pinned (OpenSpec.ofChange fnLoopStayWrong)

/-- 'laws.FnLoopCorners': WHATEVER THE INPUT: true; the input reads as it did. -/
def fnLoopCornersSpec : ChangeSpec := { name := "fnLoopCorners", fn := fun _ => fun
  | [d] => { results := [.lit (.bool true)], args := [d] }
  | _ => none }
def fnLoopCornersRow : OpenClaim := { program := "ytempleochkohlaa", sum := "37b1c4954d7d6b94c906cdd3842e30b63ef19f0bb9d15082ec186b3a20a6db7c", func := "loop.example/mortiser/laws.FnLoopCorners", spec := "fnLoopCorners", unfollowed := true, recurses := true, apart := false }
def FnLoopCornersSaid : Prop := fnLoopCornersRow.holds Try.pinned (OpenSpec.ofChange fnLoopCornersSpec)

/-- ITS FALSE NEIGHBOUR: 'it returns false'. Refute it at one input. -/
def fnLoopCornersWrong : ChangeSpec := { name := "fnLoopCorners", fn := fun _ => fun
  | [d] => { results := [.lit (.bool false)], args := [d] }
  | _ => none }
def FnLoopCornersWrongFalsely : Prop := fnLoopCornersRow.holds Try.pinned (OpenSpec.ofChange fnLoopCornersWrong)

/-- 'laws.FnLoopStraight': WHATEVER THE INPUT: true; the input reads as it did. -/
def fnLoopStraightSpec : ChangeSpec := { name := "fnLoopStraight", fn := fun _ => fun
  | [d1, d2] => { results := [.lit (.bool true)], args := [d1, d2] }
  | _ => none }
def fnLoopStraightRow : OpenClaim := { program := "ytempleochkohlaa", sum := "37b1c4954d7d6b94c906cdd3842e30b63ef19f0bb9d15082ec186b3a20a6db7c", func := "loop.example/mortiser/laws.FnLoopStraight", spec := "fnLoopStraight", unfollowed := true, recurses := true, apart := false }
def FnLoopStraightSaid : Prop := fnLoopStraightRow.holds Try.pinned (OpenSpec.ofChange fnLoopStraightSpec)

/-- ITS FALSE NEIGHBOUR: 'it returns false'. Refute it at one input. -/
def fnLoopStraightWrong : ChangeSpec := { name := "fnLoopStraight", fn := fun _ => fun
  | [d1, d2] => { results := [.lit (.bool false)], args := [d1, d2] }
  | _ => none }
def FnLoopStraightWrongFalsely : Prop := fnLoopStraightRow.holds Try.pinned (OpenSpec.ofChange fnLoopStraightWrong)

/-- 'laws.FnExactLoopIn': WHATEVER THE INPUT: true; the input reads as it did. -/
def fnExactLoopInSpec : ChangeSpec := { name := "fnExactLoopIn", fn := fun _ => fun
  | [d1, d2] => { results := [.lit (.bool true)], args := [d1, d2] }
  | _ => none }
def fnExactLoopInRow : OpenClaim := { program := "ytempleochkohlaa", sum := "37b1c4954d7d6b94c906cdd3842e30b63ef19f0bb9d15082ec186b3a20a6db7c", func := "loop.example/mortiser/laws.FnExactLoopIn", spec := "fnExactLoopIn", unfollowed := true, recurses := true, apart := false }
def FnExactLoopInSaid : Prop := fnExactLoopInRow.holds Try.pinned (OpenSpec.ofChange fnExactLoopInSpec)

/-- ITS FALSE NEIGHBOUR: 'it returns false'. Refute it at one input. -/
def fnExactLoopInWrong : ChangeSpec := { name := "fnExactLoopIn", fn := fun _ => fun
  | [d1, d2] => { results := [.lit (.bool false)], args := [d1, d2] }
  | _ => none }
def FnExactLoopInWrongFalsely : Prop := fnExactLoopInRow.holds Try.pinned (OpenSpec.ofChange fnExactLoopInWrong)

/-- 'laws.FnExactLoopEdges': WHATEVER THE INPUT: true; the input reads as it did. -/
def fnExactLoopEdgesSpec : ChangeSpec := { name := "fnExactLoopEdges", fn := fun _ => fun
  | [d] => { results := [.lit (.bool true)], args := [d] }
  | _ => none }
def fnExactLoopEdgesRow : OpenClaim := { program := "ytempleochkohlaa", sum := "37b1c4954d7d6b94c906cdd3842e30b63ef19f0bb9d15082ec186b3a20a6db7c", func := "loop.example/mortiser/laws.FnExactLoopEdges", spec := "fnExactLoopEdges", unfollowed := true, recurses := true, apart := false }
def FnExactLoopEdgesSaid : Prop := fnExactLoopEdgesRow.holds Try.pinned (OpenSpec.ofChange fnExactLoopEdgesSpec)

/-- ITS FALSE NEIGHBOUR: 'it returns false'. Refute it at one input. -/
def fnExactLoopEdgesWrong : ChangeSpec := { name := "fnExactLoopEdges", fn := fun _ => fun
  | [d] => { results := [.lit (.bool false)], args := [d] }
  | _ => none }
def FnExactLoopEdgesWrongFalsely : Prop := fnExactLoopEdgesRow.holds Try.pinned (OpenSpec.ofChange fnExactLoopEdgesWrong)

/- THE SECOND FORM. 'bulk': how many values and letters a reading holds, each counted each time it is reached (what is shared counts as often as it is met; a slice's spare places count too). A statement '..UptoSaid' is the law's where the arguments, and the package variables that the reading takes, are together of bulk at most 1048576: NARROWER than '..Said'. Prove '..Said' where nothing that the law and all that it calls make is longer than what came in: it says more and counts as full. Else prove '..UptoSaid'. A law counts once. -/
mutual
def uptoBulk {H : Type} : DataW H → Nat
  | .lit (.string bytes) => bytes.length + 1
  | .lit _ => 1
  | .nil => 1
  | .ptr d => uptoBulk d + 1
  | .slice elems spare => uptoBulkAll elems + uptoBulkAll spare + 1
  | .agg parts => uptoBulkAll parts + 1
  | .iface _ d => uptoBulk d + 1
  | .map entries => uptoBulkEntries entries + 1
  | .held _ => 1
def uptoBulkAll {H : Type} : List (DataW H) → Nat
  | [] => 0
  | d :: r => uptoBulk d + uptoBulkAll r
def uptoBulkEntries {H : Type} : List (Lit × DataW H) → Nat
  | [] => 0
  | x :: r => uptoBulkEntry x + uptoBulkEntries r
def uptoBulkEntry {H : Type} : Lit × DataW H → Nat
  | (.string bytes, d) => bytes.length + uptoBulk d + 1
  | (_, d) => uptoBulk d + 1
 end
def uptoSmall : (H : Type) → List (DataW H) → Bool := fun _ ds => decide (uptoBulkAll ds ≤ 1048576)
def OpenSpec.upto (s : _root_.Go.ChangeSpec) : _root_.Go.OpenSpec := { _root_.Go.OpenSpec.ofChange s with cond := some uptoSmall }

/-- 'laws.FnTurnRound', WHERE WHAT IT READS IS OF BULK AT MOST 1048576: true; the input reads as it did. -/
def fnTurnRoundUptoRow : OpenClaim := { program := "ytempleochkohlaa", sum := "37b1c4954d7d6b94c906cdd3842e30b63ef19f0bb9d15082ec186b3a20a6db7c", func := "loop.example/mortiser/laws.FnTurnRound", spec := "fnTurnRound", apart := false, narrowed := true }
def FnTurnRoundUptoSaid : Prop := fnTurnRoundUptoRow.holds Try.pinned (OpenSpec.upto fnTurnRoundSpec)

/-- 'laws.FnTurnMirror', WHERE WHAT IT READS IS OF BULK AT MOST 1048576: true; the input reads as it did. -/
def fnTurnMirrorUptoRow : OpenClaim := { program := "ytempleochkohlaa", sum := "37b1c4954d7d6b94c906cdd3842e30b63ef19f0bb9d15082ec186b3a20a6db7c", func := "loop.example/mortiser/laws.FnTurnMirror", spec := "fnTurnMirror", apart := false, narrowed := true }
def FnTurnMirrorUptoSaid : Prop := fnTurnMirrorUptoRow.holds Try.pinned (OpenSpec.upto fnTurnMirrorSpec)

/-- 'laws.FnLoopTwice', WHERE WHAT IT READS IS OF BULK AT MOST 1048576: true; the input reads as it did. -/
def fnLoopTwiceUptoRow : OpenClaim := { program := "ytempleochkohlaa", sum := "37b1c4954d7d6b94c906cdd3842e30b63ef19f0bb9d15082ec186b3a20a6db7c", func := "loop.example/mortiser/laws.FnLoopTwice", spec := "fnLoopTwice", unfollowed := true, recurses := true, apart := false, narrowed := true }
def FnLoopTwiceUptoSaid : Prop := fnLoopTwiceUptoRow.holds Try.pinned (OpenSpec.upto fnLoopTwiceSpec)

/-- 'laws.FnLoopInOn', WHERE WHAT IT READS IS OF BULK AT MOST 1048576: true; the input reads as it did. -/
def fnLoopInOnUptoRow : OpenClaim := { program := "ytempleochkohlaa", sum := "37b1c4954d7d6b94c906cdd3842e30b63ef19f0bb9d15082ec186b3a20a6db7c", func := "loop.example/mortiser/laws.FnLoopInOn", spec := "fnLoopInOn", unfollowed := true, recurses := true, apart := false, narrowed := true }
def FnLoopInOnUptoSaid : Prop := fnLoopInOnUptoRow.holds Try.pinned (OpenSpec.upto fnLoopInOnSpec)

/-- 'laws.FnLoopCross', WHERE WHAT IT READS IS OF BULK AT MOST 1048576: true; the input reads as it did. -/
def fnLoopCrossUptoRow : OpenClaim := { program := "ytempleochkohlaa", sum := "37b1c4954d7d6b94c906cdd3842e30b63ef19f0bb9d15082ec186b3a20a6db7c", func := "loop.example/mortiser/laws.FnLoopCross", spec := "fnLoopCross", unfollowed := true, recurses := true, apart := false, narrowed := true }
def FnLoopCrossUptoSaid : Prop := fnLoopCrossUptoRow.holds Try.pinned (OpenSpec.upto fnLoopCrossSpec)

/-- 'laws.FnLoopStay', WHERE WHAT IT READS IS OF BULK AT MOST 1048576: true; the input reads as it did. -/
def fnLoopStayUptoRow : OpenClaim := { program := "ytempleochkohlaa", sum := "37b1c4954d7d6b94c906cdd3842e30b63ef19f0bb9d15082ec186b3a20a6db7c", func := "loop.example/mortiser/laws.FnLoopStay", spec := "fnLoopStay", unfollowed := true, recurses := true, apart := false, narrowed := true }
def FnLoopStayUptoSaid : Prop := fnLoopStayUptoRow.holds Try.pinned (OpenSpec.upto fnLoopStaySpec)

/-- 'laws.FnLoopCorners', WHERE WHAT IT READS IS OF BULK AT MOST 1048576: true; the input reads as it did. -/
def fnLoopCornersUptoRow : OpenClaim := { program := "ytempleochkohlaa", sum := "37b1c4954d7d6b94c906cdd3842e30b63ef19f0bb9d15082ec186b3a20a6db7c", func := "loop.example/mortiser/laws.FnLoopCorners", spec := "fnLoopCorners", unfollowed := true, recurses := true, apart := false, narrowed := true }
def FnLoopCornersUptoSaid : Prop := fnLoopCornersUptoRow.holds Try.pinned (OpenSpec.upto fnLoopCornersSpec)

/-- 'laws.FnLoopStraight', WHERE WHAT IT READS IS OF BULK AT MOST 1048576: true; the input reads as it did. -/
def fnLoopStraightUptoRow : OpenClaim := { program := "ytempleochkohlaa", sum := "37b1c4954d7d6b94c906cdd3842e30b63ef19f0bb9d15082ec186b3a20a6db7c", func := "loop.example/mortiser/laws.FnLoopStraight", spec := "fnLoopStraight", unfollowed := true, recurses := true, apart := false, narrowed := true }
def FnLoopStraightUptoSaid : Prop := fnLoopStraightUptoRow.holds Try.pinned (OpenSpec.upto fnLoopStraightSpec)

/-- 'laws.FnExactLoopIn', WHERE WHAT IT READS IS OF BULK AT MOST 1048576: true; the input reads as it did. -/
def fnExactLoopInUptoRow : OpenClaim := { program := "ytempleochkohlaa", sum := "37b1c4954d7d6b94c906cdd3842e30b63ef19f0bb9d15082ec186b3a20a6db7c", func := "loop.example/mortiser/laws.FnExactLoopIn", spec := "fnExactLoopIn", unfollowed := true, recurses := true, apart := false, narrowed := true }
def FnExactLoopInUptoSaid : Prop := fnExactLoopInUptoRow.holds Try.pinned (OpenSpec.upto fnExactLoopInSpec)

/-- 'laws.FnExactLoopEdges', WHERE WHAT IT READS IS OF BULK AT MOST 1048576: true; the input reads as it did. -/
def fnExactLoopEdgesUptoRow : OpenClaim := { program := "ytempleochkohlaa", sum := "37b1c4954d7d6b94c906cdd3842e30b63ef19f0bb9d15082ec186b3a20a6db7c", func := "loop.example/mortiser/laws.FnExactLoopEdges", spec := "fnExactLoopEdges", unfollowed := true, recurses := true, apart := false, narrowed := true }
def FnExactLoopEdgesUptoSaid : Prop := fnExactLoopEdgesUptoRow.holds Try.pinned (OpenSpec.upto fnExactLoopEdgesSpec)

end Rows
end Go.Proofs.Ytempleochkohlaa
