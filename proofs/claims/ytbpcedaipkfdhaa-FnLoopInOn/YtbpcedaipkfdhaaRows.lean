/-
  No cell of these rows narrows 'for every input' (looked for: loops, veiled, ifaces, maps, wideKeys, modest, calm, conditions, laid).
  DERIVED. THE GIVEN ROWS OF THIS SEAT. 16 by the template 'for every input the law returns true; each argument reads behind the call as it read before'; 0 by the template 'total and deterministic' (their statements: YtbpcedaipkfdhaaTotals.lean).
  GIVEN WITH THE SEED: the statements are not yours to turn. If you find one false, say at which input.
  Laid BY PROGRAM, IN A SANDBOX (cutbox-rows.mjs): the forced cells as the released guide's own fill.sh prints them over the translation 26bb41af38d6eb3e… (all of the seat's roots in one cut). By AI agents, Wed Nov 11 2026. No macro, syntax, notation, axiom, sorry.
-/
import Derived.Test.YtbpcedaipkfdhaaChecked
import GoSem.Claim
import GoSem.ClaimJoined
import GoSem.ClaimMapViews
import Derived.JoinedTies
import Derived.KernelRfl
namespace Go.Proofs.Ytbpcedaipkfdhaa
/- THE CELL 'sum', in the pinned program and in every row, IS THE sha256 OF THE DUMP (.gsa) THAT YtbpcedaipkfdhaaProg.lean LOADS. Nothing in Lean hashes anything: it is a label: what it is worth is what the hold of that sum in a sandbox is worth. -/
noncomputable def Try.pinned : Pinned := { name := "ytbpcedaipkfdhaa", sum := "26bb41af38d6eb3e06f4fb560cb889e3c3e6d2caa195c5b0fedadd89f0367d68", checked := Try.checked }
namespace Rows
def none {H : Type} : Left H := { results := [], args := [] }

/-- 'laws.FnTurnRound': WHATEVER THE INPUT: true; the input reads as it did. -/
def fnTurnRoundSpec : ChangeSpec := { name := "fnTurnRound", fn := fun _ => fun
  | [d] => { results := [.lit (.bool true)], args := [d] }
  | _ => none }
def fnTurnRoundRow : OpenClaim := { program := "ytbpcedaipkfdhaa", sum := "26bb41af38d6eb3e06f4fb560cb889e3c3e6d2caa195c5b0fedadd89f0367d68", func := "loop.example/mortiser/laws.FnTurnRound", spec := "fnTurnRound", apart := false }
def FnTurnRoundSaid : Prop := fnTurnRoundRow.holds Try.pinned (OpenSpec.ofChange fnTurnRoundSpec)

/-- ITS FALSE NEIGHBOUR: 'it returns false'. Refute it at one input. -/
def fnTurnRoundWrong : ChangeSpec := { name := "fnTurnRound", fn := fun _ => fun
  | [d] => { results := [.lit (.bool false)], args := [d] }
  | _ => none }
def FnTurnRoundWrongFalsely : Prop := fnTurnRoundRow.holds Try.pinned (OpenSpec.ofChange fnTurnRoundWrong)

/-- 'laws.FnTurnMirror': WHATEVER THE INPUT: true; the input reads as it did. -/
def fnTurnMirrorSpec : ChangeSpec := { name := "fnTurnMirror", fn := fun _ => fun
  | [d] => { results := [.lit (.bool true)], args := [d] }
  | _ => none }
def fnTurnMirrorRow : OpenClaim := { program := "ytbpcedaipkfdhaa", sum := "26bb41af38d6eb3e06f4fb560cb889e3c3e6d2caa195c5b0fedadd89f0367d68", func := "loop.example/mortiser/laws.FnTurnMirror", spec := "fnTurnMirror", apart := false }
def FnTurnMirrorSaid : Prop := fnTurnMirrorRow.holds Try.pinned (OpenSpec.ofChange fnTurnMirrorSpec)

/-- ITS FALSE NEIGHBOUR: 'it returns false'. Refute it at one input. -/
def fnTurnMirrorWrong : ChangeSpec := { name := "fnTurnMirror", fn := fun _ => fun
  | [d] => { results := [.lit (.bool false)], args := [d] }
  | _ => none }
def FnTurnMirrorWrongFalsely : Prop := fnTurnMirrorRow.holds Try.pinned (OpenSpec.ofChange fnTurnMirrorWrong)

/-- 'laws.FnLoopTurned': WHATEVER THE INPUT: true; the input reads as it did. -/
def fnLoopTurnedSpec : ChangeSpec := { name := "fnLoopTurned", fn := fun _ => fun
  | [d1, d2] => { results := [.lit (.bool true)], args := [d1, d2] }
  | _ => none }
def fnLoopTurnedRow : OpenClaim := { program := "ytbpcedaipkfdhaa", sum := "26bb41af38d6eb3e06f4fb560cb889e3c3e6d2caa195c5b0fedadd89f0367d68", func := "loop.example/mortiser/laws.FnLoopTurned", spec := "fnLoopTurned", unfollowed := true, recurses := true, apart := false }
def FnLoopTurnedSaid : Prop := fnLoopTurnedRow.holds Try.pinned (OpenSpec.ofChange fnLoopTurnedSpec)

/-- ITS FALSE NEIGHBOUR: 'it returns false'. Refute it at one input. -/
def fnLoopTurnedWrong : ChangeSpec := { name := "fnLoopTurned", fn := fun _ => fun
  | [d1, d2] => { results := [.lit (.bool false)], args := [d1, d2] }
  | _ => none }
def FnLoopTurnedWrongFalsely : Prop := fnLoopTurnedRow.holds Try.pinned (OpenSpec.ofChange fnLoopTurnedWrong)

/-- 'laws.FnLoopTwice': WHATEVER THE INPUT: true; the input reads as it did. -/
def fnLoopTwiceSpec : ChangeSpec := { name := "fnLoopTwice", fn := fun _ => fun
  | [d1, d2] => { results := [.lit (.bool true)], args := [d1, d2] }
  | _ => none }
def fnLoopTwiceRow : OpenClaim := { program := "ytbpcedaipkfdhaa", sum := "26bb41af38d6eb3e06f4fb560cb889e3c3e6d2caa195c5b0fedadd89f0367d68", func := "loop.example/mortiser/laws.FnLoopTwice", spec := "fnLoopTwice", unfollowed := true, recurses := true, apart := false }
def FnLoopTwiceSaid : Prop := fnLoopTwiceRow.holds Try.pinned (OpenSpec.ofChange fnLoopTwiceSpec)

/-- ITS FALSE NEIGHBOUR: 'it returns false'. Refute it at one input. -/
def fnLoopTwiceWrong : ChangeSpec := { name := "fnLoopTwice", fn := fun _ => fun
  | [d1, d2] => { results := [.lit (.bool false)], args := [d1, d2] }
  | _ => none }
def FnLoopTwiceWrongFalsely : Prop := fnLoopTwiceRow.holds Try.pinned (OpenSpec.ofChange fnLoopTwiceWrong)

/-- 'laws.FnLoopApart': WHATEVER THE INPUT: true; the input reads as it did. -/
def fnLoopApartSpec : ChangeSpec := { name := "fnLoopApart", fn := fun _ => fun
  | [d] => { results := [.lit (.bool true)], args := [d] }
  | _ => none }
def fnLoopApartRow : OpenClaim := { program := "ytbpcedaipkfdhaa", sum := "26bb41af38d6eb3e06f4fb560cb889e3c3e6d2caa195c5b0fedadd89f0367d68", func := "loop.example/mortiser/laws.FnLoopApart", spec := "fnLoopApart", unfollowed := true, recurses := true, apart := false }
def FnLoopApartSaid : Prop := fnLoopApartRow.holds Try.pinned (OpenSpec.ofChange fnLoopApartSpec)

/-- ITS FALSE NEIGHBOUR: 'it returns false'. Refute it at one input. -/
def fnLoopApartWrong : ChangeSpec := { name := "fnLoopApart", fn := fun _ => fun
  | [d] => { results := [.lit (.bool false)], args := [d] }
  | _ => none }
def FnLoopApartWrongFalsely : Prop := fnLoopApartRow.holds Try.pinned (OpenSpec.ofChange fnLoopApartWrong)

/-- 'laws.FnLoopSize': WHATEVER THE INPUT: true; the input reads as it did. -/
def fnLoopSizeSpec : ChangeSpec := { name := "fnLoopSize", fn := fun _ => fun
  | [d1, d2] => { results := [.lit (.bool true)], args := [d1, d2] }
  | _ => none }
def fnLoopSizeRow : OpenClaim := { program := "ytbpcedaipkfdhaa", sum := "26bb41af38d6eb3e06f4fb560cb889e3c3e6d2caa195c5b0fedadd89f0367d68", func := "loop.example/mortiser/laws.FnLoopSize", spec := "fnLoopSize", unfollowed := true, recurses := true, apart := false }
def FnLoopSizeSaid : Prop := fnLoopSizeRow.holds Try.pinned (OpenSpec.ofChange fnLoopSizeSpec)

/-- ITS FALSE NEIGHBOUR: 'it returns false'. Refute it at one input. -/
def fnLoopSizeWrong : ChangeSpec := { name := "fnLoopSize", fn := fun _ => fun
  | [d1, d2] => { results := [.lit (.bool false)], args := [d1, d2] }
  | _ => none }
def FnLoopSizeWrongFalsely : Prop := fnLoopSizeRow.holds Try.pinned (OpenSpec.ofChange fnLoopSizeWrong)

/-- 'laws.FnLoopPick': WHATEVER THE INPUT: true; the input reads as it did. -/
def fnLoopPickSpec : ChangeSpec := { name := "fnLoopPick", fn := fun _ => fun
  | [d] => { results := [.lit (.bool true)], args := [d] }
  | _ => none }
def fnLoopPickRow : OpenClaim := { program := "ytbpcedaipkfdhaa", sum := "26bb41af38d6eb3e06f4fb560cb889e3c3e6d2caa195c5b0fedadd89f0367d68", func := "loop.example/mortiser/laws.FnLoopPick", spec := "fnLoopPick", unfollowed := true, recurses := true, apart := false }
def FnLoopPickSaid : Prop := fnLoopPickRow.holds Try.pinned (OpenSpec.ofChange fnLoopPickSpec)

/-- ITS FALSE NEIGHBOUR: 'it returns false'. Refute it at one input. -/
def fnLoopPickWrong : ChangeSpec := { name := "fnLoopPick", fn := fun _ => fun
  | [d] => { results := [.lit (.bool false)], args := [d] }
  | _ => none }
def FnLoopPickWrongFalsely : Prop := fnLoopPickRow.holds Try.pinned (OpenSpec.ofChange fnLoopPickWrong)

/-- 'laws.FnLoopInOn': WHATEVER THE INPUT: true; the input reads as it did. -/
def fnLoopInOnSpec : ChangeSpec := { name := "fnLoopInOn", fn := fun _ => fun
  | [d1, d2] => { results := [.lit (.bool true)], args := [d1, d2] }
  | _ => none }
def fnLoopInOnRow : OpenClaim := { program := "ytbpcedaipkfdhaa", sum := "26bb41af38d6eb3e06f4fb560cb889e3c3e6d2caa195c5b0fedadd89f0367d68", func := "loop.example/mortiser/laws.FnLoopInOn", spec := "fnLoopInOn", unfollowed := true, recurses := true, apart := false }
def FnLoopInOnSaid : Prop := fnLoopInOnRow.holds Try.pinned (OpenSpec.ofChange fnLoopInOnSpec)

/-- ITS FALSE NEIGHBOUR: 'it returns false'. Refute it at one input. -/
def fnLoopInOnWrong : ChangeSpec := { name := "fnLoopInOn", fn := fun _ => fun
  | [d1, d2] => { results := [.lit (.bool false)], args := [d1, d2] }
  | _ => none }
def FnLoopInOnWrongFalsely : Prop := fnLoopInOnRow.holds Try.pinned (OpenSpec.ofChange fnLoopInOnWrong)

/-- 'laws.FnLoopCross': WHATEVER THE INPUT: true; the input reads as it did. -/
def fnLoopCrossSpec : ChangeSpec := { name := "fnLoopCross", fn := fun _ => fun
  | [d1, d2] => { results := [.lit (.bool true)], args := [d1, d2] }
  | _ => none }
def fnLoopCrossRow : OpenClaim := { program := "ytbpcedaipkfdhaa", sum := "26bb41af38d6eb3e06f4fb560cb889e3c3e6d2caa195c5b0fedadd89f0367d68", func := "loop.example/mortiser/laws.FnLoopCross", spec := "fnLoopCross", unfollowed := true, recurses := true, apart := false }
def FnLoopCrossSaid : Prop := fnLoopCrossRow.holds Try.pinned (OpenSpec.ofChange fnLoopCrossSpec)

/-- ITS FALSE NEIGHBOUR: 'it returns false'. Refute it at one input. -/
def fnLoopCrossWrong : ChangeSpec := { name := "fnLoopCross", fn := fun _ => fun
  | [d1, d2] => { results := [.lit (.bool false)], args := [d1, d2] }
  | _ => none }
def FnLoopCrossWrongFalsely : Prop := fnLoopCrossRow.holds Try.pinned (OpenSpec.ofChange fnLoopCrossWrong)

/-- 'laws.FnLoopStay': WHATEVER THE INPUT: true; the input reads as it did. -/
def fnLoopStaySpec : ChangeSpec := { name := "fnLoopStay", fn := fun _ => fun
  | [d1, d2] => { results := [.lit (.bool true)], args := [d1, d2] }
  | _ => none }
def fnLoopStayRow : OpenClaim := { program := "ytbpcedaipkfdhaa", sum := "26bb41af38d6eb3e06f4fb560cb889e3c3e6d2caa195c5b0fedadd89f0367d68", func := "loop.example/mortiser/laws.FnLoopStay", spec := "fnLoopStay", unfollowed := true, recurses := true, apart := false }
def FnLoopStaySaid : Prop := fnLoopStayRow.holds Try.pinned (OpenSpec.ofChange fnLoopStaySpec)

/-- ITS FALSE NEIGHBOUR: 'it returns false'. Refute it at one input. -/
def fnLoopStayWrong : ChangeSpec := { name := "fnLoopStay", fn := fun _ => fun
  | [d1, d2] => { results := [.lit (.bool false)], args := [d1, d2] }
  | _ => none }
def FnLoopStayWrongFalsely : Prop := fnLoopStayRow.holds Try.pinned (OpenSpec.ofChange fnLoopStayWrong)

/-- 'laws.FnLoopCorners': WHATEVER THE INPUT: true; the input reads as it did. -/
def fnLoopCornersSpec : ChangeSpec := { name := "fnLoopCorners", fn := fun _ => fun
  | [d] => { results := [.lit (.bool true)], args := [d] }
  | _ => none }
def fnLoopCornersRow : OpenClaim := { program := "ytbpcedaipkfdhaa", sum := "26bb41af38d6eb3e06f4fb560cb889e3c3e6d2caa195c5b0fedadd89f0367d68", func := "loop.example/mortiser/laws.FnLoopCorners", spec := "fnLoopCorners", unfollowed := true, recurses := true, apart := false }
def FnLoopCornersSaid : Prop := fnLoopCornersRow.holds Try.pinned (OpenSpec.ofChange fnLoopCornersSpec)

/-- ITS FALSE NEIGHBOUR: 'it returns false'. Refute it at one input. -/
def fnLoopCornersWrong : ChangeSpec := { name := "fnLoopCorners", fn := fun _ => fun
  | [d] => { results := [.lit (.bool false)], args := [d] }
  | _ => none }
def FnLoopCornersWrongFalsely : Prop := fnLoopCornersRow.holds Try.pinned (OpenSpec.ofChange fnLoopCornersWrong)

/-- 'laws.FnLoopStraight': WHATEVER THE INPUT: true; the input reads as it did. -/
def fnLoopStraightSpec : ChangeSpec := { name := "fnLoopStraight", fn := fun _ => fun
  | [d1, d2] => { results := [.lit (.bool true)], args := [d1, d2] }
  | _ => none }
def fnLoopStraightRow : OpenClaim := { program := "ytbpcedaipkfdhaa", sum := "26bb41af38d6eb3e06f4fb560cb889e3c3e6d2caa195c5b0fedadd89f0367d68", func := "loop.example/mortiser/laws.FnLoopStraight", spec := "fnLoopStraight", unfollowed := true, recurses := true, apart := false }
def FnLoopStraightSaid : Prop := fnLoopStraightRow.holds Try.pinned (OpenSpec.ofChange fnLoopStraightSpec)

/-- ITS FALSE NEIGHBOUR: 'it returns false'. Refute it at one input. -/
def fnLoopStraightWrong : ChangeSpec := { name := "fnLoopStraight", fn := fun _ => fun
  | [d1, d2] => { results := [.lit (.bool false)], args := [d1, d2] }
  | _ => none }
def FnLoopStraightWrongFalsely : Prop := fnLoopStraightRow.holds Try.pinned (OpenSpec.ofChange fnLoopStraightWrong)

/-- 'laws.FnExactLoopOk': WHATEVER THE INPUT: true; the input reads as it did. -/
def fnExactLoopOkSpec : ChangeSpec := { name := "fnExactLoopOk", fn := fun _ => fun
  | [d] => { results := [.lit (.bool true)], args := [d] }
  | _ => none }
def fnExactLoopOkRow : OpenClaim := { program := "ytbpcedaipkfdhaa", sum := "26bb41af38d6eb3e06f4fb560cb889e3c3e6d2caa195c5b0fedadd89f0367d68", func := "loop.example/mortiser/laws.FnExactLoopOk", spec := "fnExactLoopOk", unfollowed := true, recurses := true, apart := false }
def FnExactLoopOkSaid : Prop := fnExactLoopOkRow.holds Try.pinned (OpenSpec.ofChange fnExactLoopOkSpec)

/-- ITS FALSE NEIGHBOUR: 'it returns false'. Refute it at one input. -/
def fnExactLoopOkWrong : ChangeSpec := { name := "fnExactLoopOk", fn := fun _ => fun
  | [d] => { results := [.lit (.bool false)], args := [d] }
  | _ => none }
def FnExactLoopOkWrongFalsely : Prop := fnExactLoopOkRow.holds Try.pinned (OpenSpec.ofChange fnExactLoopOkWrong)

/-- 'laws.FnExactLoopSize': WHATEVER THE INPUT: true; the input reads as it did. -/
def fnExactLoopSizeSpec : ChangeSpec := { name := "fnExactLoopSize", fn := fun _ => fun
  | [d] => { results := [.lit (.bool true)], args := [d] }
  | _ => none }
def fnExactLoopSizeRow : OpenClaim := { program := "ytbpcedaipkfdhaa", sum := "26bb41af38d6eb3e06f4fb560cb889e3c3e6d2caa195c5b0fedadd89f0367d68", func := "loop.example/mortiser/laws.FnExactLoopSize", spec := "fnExactLoopSize", unfollowed := true, recurses := true, apart := false }
def FnExactLoopSizeSaid : Prop := fnExactLoopSizeRow.holds Try.pinned (OpenSpec.ofChange fnExactLoopSizeSpec)

/-- ITS FALSE NEIGHBOUR: 'it returns false'. Refute it at one input. -/
def fnExactLoopSizeWrong : ChangeSpec := { name := "fnExactLoopSize", fn := fun _ => fun
  | [d] => { results := [.lit (.bool false)], args := [d] }
  | _ => none }
def FnExactLoopSizeWrongFalsely : Prop := fnExactLoopSizeRow.holds Try.pinned (OpenSpec.ofChange fnExactLoopSizeWrong)

/-- 'laws.FnExactLoopIn': WHATEVER THE INPUT: true; the input reads as it did. -/
def fnExactLoopInSpec : ChangeSpec := { name := "fnExactLoopIn", fn := fun _ => fun
  | [d1, d2] => { results := [.lit (.bool true)], args := [d1, d2] }
  | _ => none }
def fnExactLoopInRow : OpenClaim := { program := "ytbpcedaipkfdhaa", sum := "26bb41af38d6eb3e06f4fb560cb889e3c3e6d2caa195c5b0fedadd89f0367d68", func := "loop.example/mortiser/laws.FnExactLoopIn", spec := "fnExactLoopIn", unfollowed := true, recurses := true, apart := false }
def FnExactLoopInSaid : Prop := fnExactLoopInRow.holds Try.pinned (OpenSpec.ofChange fnExactLoopInSpec)

/-- ITS FALSE NEIGHBOUR: 'it returns false'. Refute it at one input. -/
def fnExactLoopInWrong : ChangeSpec := { name := "fnExactLoopIn", fn := fun _ => fun
  | [d1, d2] => { results := [.lit (.bool false)], args := [d1, d2] }
  | _ => none }
def FnExactLoopInWrongFalsely : Prop := fnExactLoopInRow.holds Try.pinned (OpenSpec.ofChange fnExactLoopInWrong)

/-- 'laws.FnExactLoopEdges': WHATEVER THE INPUT: true; the input reads as it did. -/
def fnExactLoopEdgesSpec : ChangeSpec := { name := "fnExactLoopEdges", fn := fun _ => fun
  | [d] => { results := [.lit (.bool true)], args := [d] }
  | _ => none }
def fnExactLoopEdgesRow : OpenClaim := { program := "ytbpcedaipkfdhaa", sum := "26bb41af38d6eb3e06f4fb560cb889e3c3e6d2caa195c5b0fedadd89f0367d68", func := "loop.example/mortiser/laws.FnExactLoopEdges", spec := "fnExactLoopEdges", unfollowed := true, recurses := true, apart := false }
def FnExactLoopEdgesSaid : Prop := fnExactLoopEdgesRow.holds Try.pinned (OpenSpec.ofChange fnExactLoopEdgesSpec)

/-- ITS FALSE NEIGHBOUR: 'it returns false'. Refute it at one input. -/
def fnExactLoopEdgesWrong : ChangeSpec := { name := "fnExactLoopEdges", fn := fun _ => fun
  | [d] => { results := [.lit (.bool false)], args := [d] }
  | _ => none }
def FnExactLoopEdgesWrongFalsely : Prop := fnExactLoopEdgesRow.holds Try.pinned (OpenSpec.ofChange fnExactLoopEdgesWrong)

/- THE SECOND FORM. 'bulk': how many values and letters a reading holds, each counted each time it is reached (what is shared counts as often as it is met; a slice's spare places count too). A statement '..UptoSaid' is the law's where the arguments, and the package variables that the reading takes, are together of bulk at most 1048576: NARROWER than '..Said'. Prove '..Said' where nothing that the law and all that it calls make is longer than what came in: it says more and counts as full. Else prove '..UptoSaid'. A law counts once. -/
mutual
def uptoBulk {H : Type} : DataW H → Nat
  | .lit (.string bytes) => bytes.length + 1
  | .lit _ => 1
  | .nil => 1
  | .ptr d => uptoBulk d + 1
  | .slice elems spare => uptoBulkAll elems + uptoBulkAll spare + 1
  | .agg parts => uptoBulkAll parts + 1
  | .iface _ d => uptoBulk d + 1
  | .map entries => uptoBulkEntries entries + 1
  | .held _ => 1
def uptoBulkAll {H : Type} : List (DataW H) → Nat
  | [] => 0
  | d :: r => uptoBulk d + uptoBulkAll r
def uptoBulkEntries {H : Type} : List (Lit × DataW H) → Nat
  | [] => 0
  | x :: r => uptoBulkEntry x + uptoBulkEntries r
def uptoBulkEntry {H : Type} : Lit × DataW H → Nat
  | (.string bytes, d) => bytes.length + uptoBulk d + 1
  | (_, d) => uptoBulk d + 1
 end
def uptoSmall : (H : Type) → List (DataW H) → Bool := fun _ ds => decide (uptoBulkAll ds ≤ 1048576)
def OpenSpec.upto (s : _root_.Go.ChangeSpec) : _root_.Go.OpenSpec := { _root_.Go.OpenSpec.ofChange s with cond := some uptoSmall }

/-- 'laws.FnTurnRound', WHERE WHAT IT READS IS OF BULK AT MOST 1048576: true; the input reads as it did. -/
def fnTurnRoundUptoRow : OpenClaim := { program := "ytbpcedaipkfdhaa", sum := "26bb41af38d6eb3e06f4fb560cb889e3c3e6d2caa195c5b0fedadd89f0367d68", func := "loop.example/mortiser/laws.FnTurnRound", spec := "fnTurnRound", apart := false, narrowed := true }
def FnTurnRoundUptoSaid : Prop := fnTurnRoundUptoRow.holds Try.pinned (OpenSpec.upto fnTurnRoundSpec)

/-- 'laws.FnTurnMirror', WHERE WHAT IT READS IS OF BULK AT MOST 1048576: true; the input reads as it did. -/
def fnTurnMirrorUptoRow : OpenClaim := { program := "ytbpcedaipkfdhaa", sum := "26bb41af38d6eb3e06f4fb560cb889e3c3e6d2caa195c5b0fedadd89f0367d68", func := "loop.example/mortiser/laws.FnTurnMirror", spec := "fnTurnMirror", apart := false, narrowed := true }
def FnTurnMirrorUptoSaid : Prop := fnTurnMirrorUptoRow.holds Try.pinned (OpenSpec.upto fnTurnMirrorSpec)

/-- 'laws.FnLoopTurned', WHERE WHAT IT READS IS OF BULK AT MOST 1048576: true; the input reads as it did. -/
def fnLoopTurnedUptoRow : OpenClaim := { program := "ytbpcedaipkfdhaa", sum := "26bb41af38d6eb3e06f4fb560cb889e3c3e6d2caa195c5b0fedadd89f0367d68", func := "loop.example/mortiser/laws.FnLoopTurned", spec := "fnLoopTurned", unfollowed := true, recurses := true, apart := false, narrowed := true }
def FnLoopTurnedUptoSaid : Prop := fnLoopTurnedUptoRow.holds Try.pinned (OpenSpec.upto fnLoopTurnedSpec)

/-- 'laws.FnLoopTwice', WHERE WHAT IT READS IS OF BULK AT MOST 1048576: true; the input reads as it did. -/
def fnLoopTwiceUptoRow : OpenClaim := { program := "ytbpcedaipkfdhaa", sum := "26bb41af38d6eb3e06f4fb560cb889e3c3e6d2caa195c5b0fedadd89f0367d68", func := "loop.example/mortiser/laws.FnLoopTwice", spec := "fnLoopTwice", unfollowed := true, recurses := true, apart := false, narrowed := true }
def FnLoopTwiceUptoSaid : Prop := fnLoopTwiceUptoRow.holds Try.pinned (OpenSpec.upto fnLoopTwiceSpec)

/-- 'laws.FnLoopApart', WHERE WHAT IT READS IS OF BULK AT MOST 1048576: true; the input reads as it did. -/
def fnLoopApartUptoRow : OpenClaim := { program := "ytbpcedaipkfdhaa", sum := "26bb41af38d6eb3e06f4fb560cb889e3c3e6d2caa195c5b0fedadd89f0367d68", func := "loop.example/mortiser/laws.FnLoopApart", spec := "fnLoopApart", unfollowed := true, recurses := true, apart := false, narrowed := true }
def FnLoopApartUptoSaid : Prop := fnLoopApartUptoRow.holds Try.pinned (OpenSpec.upto fnLoopApartSpec)

/-- 'laws.FnLoopSize', WHERE WHAT IT READS IS OF BULK AT MOST 1048576: true; the input reads as it did. -/
def fnLoopSizeUptoRow : OpenClaim := { program := "ytbpcedaipkfdhaa", sum := "26bb41af38d6eb3e06f4fb560cb889e3c3e6d2caa195c5b0fedadd89f0367d68", func := "loop.example/mortiser/laws.FnLoopSize", spec := "fnLoopSize", unfollowed := true, recurses := true, apart := false, narrowed := true }
def FnLoopSizeUptoSaid : Prop := fnLoopSizeUptoRow.holds Try.pinned (OpenSpec.upto fnLoopSizeSpec)

/-- 'laws.FnLoopPick', WHERE WHAT IT READS IS OF BULK AT MOST 1048576: true; the input reads as it did. -/
def fnLoopPickUptoRow : OpenClaim := { program := "ytbpcedaipkfdhaa", sum := "26bb41af38d6eb3e06f4fb560cb889e3c3e6d2caa195c5b0fedadd89f0367d68", func := "loop.example/mortiser/laws.FnLoopPick", spec := "fnLoopPick", unfollowed := true, recurses := true, apart := false, narrowed := true }
def FnLoopPickUptoSaid : Prop := fnLoopPickUptoRow.holds Try.pinned (OpenSpec.upto fnLoopPickSpec)

/-- 'laws.FnLoopInOn', WHERE WHAT IT READS IS OF BULK AT MOST 1048576: true; the input reads as it did. -/
def fnLoopInOnUptoRow : OpenClaim := { program := "ytbpcedaipkfdhaa", sum := "26bb41af38d6eb3e06f4fb560cb889e3c3e6d2caa195c5b0fedadd89f0367d68", func := "loop.example/mortiser/laws.FnLoopInOn", spec := "fnLoopInOn", unfollowed := true, recurses := true, apart := false, narrowed := true }
def FnLoopInOnUptoSaid : Prop := fnLoopInOnUptoRow.holds Try.pinned (OpenSpec.upto fnLoopInOnSpec)

/-- 'laws.FnLoopCross', WHERE WHAT IT READS IS OF BULK AT MOST 1048576: true; the input reads as it did. -/
def fnLoopCrossUptoRow : OpenClaim := { program := "ytbpcedaipkfdhaa", sum := "26bb41af38d6eb3e06f4fb560cb889e3c3e6d2caa195c5b0fedadd89f0367d68", func := "loop.example/mortiser/laws.FnLoopCross", spec := "fnLoopCross", unfollowed := true, recurses := true, apart := false, narrowed := true }
def FnLoopCrossUptoSaid : Prop := fnLoopCrossUptoRow.holds Try.pinned (OpenSpec.upto fnLoopCrossSpec)

/-- 'laws.FnLoopStay', WHERE WHAT IT READS IS OF BULK AT MOST 1048576: true; the input reads as it did. -/
def fnLoopStayUptoRow : OpenClaim := { program := "ytbpcedaipkfdhaa", sum := "26bb41af38d6eb3e06f4fb560cb889e3c3e6d2caa195c5b0fedadd89f0367d68", func := "loop.example/mortiser/laws.FnLoopStay", spec := "fnLoopStay", unfollowed := true, recurses := true, apart := false, narrowed := true }
def FnLoopStayUptoSaid : Prop := fnLoopStayUptoRow.holds Try.pinned (OpenSpec.upto fnLoopStaySpec)

/-- 'laws.FnLoopCorners', WHERE WHAT IT READS IS OF BULK AT MOST 1048576: true; the input reads as it did. -/
def fnLoopCornersUptoRow : OpenClaim := { program := "ytbpcedaipkfdhaa", sum := "26bb41af38d6eb3e06f4fb560cb889e3c3e6d2caa195c5b0fedadd89f0367d68", func := "loop.example/mortiser/laws.FnLoopCorners", spec := "fnLoopCorners", unfollowed := true, recurses := true, apart := false, narrowed := true }
def FnLoopCornersUptoSaid : Prop := fnLoopCornersUptoRow.holds Try.pinned (OpenSpec.upto fnLoopCornersSpec)

/-- 'laws.FnLoopStraight', WHERE WHAT IT READS IS OF BULK AT MOST 1048576: true; the input reads as it did. -/
def fnLoopStraightUptoRow : OpenClaim := { program := "ytbpcedaipkfdhaa", sum := "26bb41af38d6eb3e06f4fb560cb889e3c3e6d2caa195c5b0fedadd89f0367d68", func := "loop.example/mortiser/laws.FnLoopStraight", spec := "fnLoopStraight", unfollowed := true, recurses := true, apart := false, narrowed := true }
def FnLoopStraightUptoSaid : Prop := fnLoopStraightUptoRow.holds Try.pinned (OpenSpec.upto fnLoopStraightSpec)

/-- 'laws.FnExactLoopOk', WHERE WHAT IT READS IS OF BULK AT MOST 1048576: true; the input reads as it did. -/
def fnExactLoopOkUptoRow : OpenClaim := { program := "ytbpcedaipkfdhaa", sum := "26bb41af38d6eb3e06f4fb560cb889e3c3e6d2caa195c5b0fedadd89f0367d68", func := "loop.example/mortiser/laws.FnExactLoopOk", spec := "fnExactLoopOk", unfollowed := true, recurses := true, apart := false, narrowed := true }
def FnExactLoopOkUptoSaid : Prop := fnExactLoopOkUptoRow.holds Try.pinned (OpenSpec.upto fnExactLoopOkSpec)

/-- 'laws.FnExactLoopSize', WHERE WHAT IT READS IS OF BULK AT MOST 1048576: true; the input reads as it did. -/
def fnExactLoopSizeUptoRow : OpenClaim := { program := "ytbpcedaipkfdhaa", sum := "26bb41af38d6eb3e06f4fb560cb889e3c3e6d2caa195c5b0fedadd89f0367d68", func := "loop.example/mortiser/laws.FnExactLoopSize", spec := "fnExactLoopSize", unfollowed := true, recurses := true, apart := false, narrowed := true }
def FnExactLoopSizeUptoSaid : Prop := fnExactLoopSizeUptoRow.holds Try.pinned (OpenSpec.upto fnExactLoopSizeSpec)

/-- 'laws.FnExactLoopIn', WHERE WHAT IT READS IS OF BULK AT MOST 1048576: true; the input reads as it did. -/
def fnExactLoopInUptoRow : OpenClaim := { program := "ytbpcedaipkfdhaa", sum := "26bb41af38d6eb3e06f4fb560cb889e3c3e6d2caa195c5b0fedadd89f0367d68", func := "loop.example/mortiser/laws.FnExactLoopIn", spec := "fnExactLoopIn", unfollowed := true, recurses := true, apart := false, narrowed := true }
def FnExactLoopInUptoSaid : Prop := fnExactLoopInUptoRow.holds Try.pinned (OpenSpec.upto fnExactLoopInSpec)

/-- 'laws.FnExactLoopEdges', WHERE WHAT IT READS IS OF BULK AT MOST 1048576: true; the input reads as it did. -/
def fnExactLoopEdgesUptoRow : OpenClaim := { program := "ytbpcedaipkfdhaa", sum := "26bb41af38d6eb3e06f4fb560cb889e3c3e6d2caa195c5b0fedadd89f0367d68", func := "loop.example/mortiser/laws.FnExactLoopEdges", spec := "fnExactLoopEdges", unfollowed := true, recurses := true, apart := false, narrowed := true }
def FnExactLoopEdgesUptoSaid : Prop := fnExactLoopEdgesUptoRow.holds Try.pinned (OpenSpec.upto fnExactLoopEdgesSpec)

end Rows
end Go.Proofs.Ytbpcedaipkfdhaa
