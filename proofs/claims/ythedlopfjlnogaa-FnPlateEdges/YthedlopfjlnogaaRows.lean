/-
  No cell of these rows narrows 'for every input' (looked for: loops, veiled, ifaces, maps, wideKeys, modest, calm, conditions, laid).
  DERIVED. THE GIVEN ROWS OF THIS SEAT. 7 by the template 'for every input the law returns true; each argument reads behind the call as it read before'; 0 by the template 'total and deterministic' (their statements: YthedlopfjlnogaaTotals.lean).
  GIVEN WITH THE SEED: the statements are not yours to turn. If you find one false, say at which input.
  Laid BY PROGRAM, IN A SANDBOX (cutbox-rows.mjs): the forced cells as the released guide's own fill.sh prints them over the translation f6f072c3e084bad3… (all of the seat's roots in one cut). By AI agents, Wed Nov 11 2026. No macro, syntax, notation, axiom, sorry.
-/
import Derived.Test.YthedlopfjlnogaaChecked
import GoSem.Claim
import GoSem.ClaimJoined
import GoSem.ClaimMapViews
import Derived.JoinedTies
import Derived.KernelRfl
namespace Go.Proofs.Ythedlopfjlnogaa
/- THE CELL 'sum', in the pinned program and in every row, IS THE sha256 OF THE DUMP (.gsa) THAT YthedlopfjlnogaaProg.lean LOADS. Nothing in Lean hashes anything: it is a label: what it is worth is what the hold of that sum in a sandbox is worth. -/
noncomputable def Try.pinned : Pinned := { name := "ythedlopfjlnogaa", sum := "f6f072c3e084bad353bc3af331c8bfcf3619f191e53e1e258bc624d89a0adfd2", checked := Try.checked }
namespace Rows
def none {H : Type} : Left H := { results := [], args := [] }

/-- 'laws.FnPlateOver': WHATEVER THE INPUT: true; the input reads as it did. -/
def fnPlateOverSpec : ChangeSpec := { name := "fnPlateOver", fn := fun _ => fun
  | [d] => { results := [.lit (.bool true)], args := [d] }
  | _ => none }
def fnPlateOverRow : OpenClaim := { program := "ythedlopfjlnogaa", sum := "f6f072c3e084bad353bc3af331c8bfcf3619f191e53e1e258bc624d89a0adfd2", func := "loop.example/mortiser/laws.FnPlateOver", spec := "fnPlateOver", unfollowed := true, recurses := true, apart := false }
def FnPlateOverSaid : Prop := fnPlateOverRow.holds Try.pinned (OpenSpec.ofChange fnPlateOverSpec)

/-- ITS FALSE NEIGHBOUR: 'it returns false'. Refute it at one input. -/
def fnPlateOverWrong : ChangeSpec := { name := "fnPlateOver", fn := fun _ => fun
  | [d] => { results := [.lit (.bool false)], args := [d] }
  | _ => none }
def FnPlateOverWrongFalsely : Prop := fnPlateOverRow.holds Try.pinned (OpenSpec.ofChange fnPlateOverWrong)

/-- 'laws.FnPlateHoles': WHATEVER THE INPUT: true; the input reads as it did. -/
def fnPlateHolesSpec : ChangeSpec := { name := "fnPlateHoles", fn := fun _ => fun
  | [d1, d2] => { results := [.lit (.bool true)], args := [d1, d2] }
  | _ => none }
def fnPlateHolesRow : OpenClaim := { program := "ythedlopfjlnogaa", sum := "f6f072c3e084bad353bc3af331c8bfcf3619f191e53e1e258bc624d89a0adfd2", func := "loop.example/mortiser/laws.FnPlateHoles", spec := "fnPlateHoles", unfollowed := true, recurses := true, apart := false }
def FnPlateHolesSaid : Prop := fnPlateHolesRow.holds Try.pinned (OpenSpec.ofChange fnPlateHolesSpec)

/-- ITS FALSE NEIGHBOUR: 'it returns false'. Refute it at one input. -/
def fnPlateHolesWrong : ChangeSpec := { name := "fnPlateHoles", fn := fun _ => fun
  | [d1, d2] => { results := [.lit (.bool false)], args := [d1, d2] }
  | _ => none }
def FnPlateHolesWrongFalsely : Prop := fnPlateHolesRow.holds Try.pinned (OpenSpec.ofChange fnPlateHolesWrong)

/-- 'laws.FnPlateFill': WHATEVER THE INPUT: true; the input reads as it did. -/
def fnPlateFillSpec : ChangeSpec := { name := "fnPlateFill", fn := fun _ => fun
  | [d] => { results := [.lit (.bool true)], args := [d] }
  | _ => none }
def fnPlateFillRow : OpenClaim := { program := "ythedlopfjlnogaa", sum := "f6f072c3e084bad353bc3af331c8bfcf3619f191e53e1e258bc624d89a0adfd2", func := "loop.example/mortiser/laws.FnPlateFill", spec := "fnPlateFill", unfollowed := true, recurses := true, apart := false }
def FnPlateFillSaid : Prop := fnPlateFillRow.holds Try.pinned (OpenSpec.ofChange fnPlateFillSpec)

/-- ITS FALSE NEIGHBOUR: 'it returns false'. Refute it at one input. -/
def fnPlateFillWrong : ChangeSpec := { name := "fnPlateFill", fn := fun _ => fun
  | [d] => { results := [.lit (.bool false)], args := [d] }
  | _ => none }
def FnPlateFillWrongFalsely : Prop := fnPlateFillRow.holds Try.pinned (OpenSpec.ofChange fnPlateFillWrong)

/-- 'laws.FnPlateIn': WHATEVER THE INPUT: true; the input reads as it did. -/
def fnPlateInSpec : ChangeSpec := { name := "fnPlateIn", fn := fun _ => fun
  | [d] => { results := [.lit (.bool true)], args := [d] }
  | _ => none }
def fnPlateInRow : OpenClaim := { program := "ythedlopfjlnogaa", sum := "f6f072c3e084bad353bc3af331c8bfcf3619f191e53e1e258bc624d89a0adfd2", func := "loop.example/mortiser/laws.FnPlateIn", spec := "fnPlateIn", unfollowed := true, recurses := true, apart := false }
def FnPlateInSaid : Prop := fnPlateInRow.holds Try.pinned (OpenSpec.ofChange fnPlateInSpec)

/-- ITS FALSE NEIGHBOUR: 'it returns false'. Refute it at one input. -/
def fnPlateInWrong : ChangeSpec := { name := "fnPlateIn", fn := fun _ => fun
  | [d] => { results := [.lit (.bool false)], args := [d] }
  | _ => none }
def FnPlateInWrongFalsely : Prop := fnPlateInRow.holds Try.pinned (OpenSpec.ofChange fnPlateInWrong)

/-- 'laws.FnPlateEdges': WHATEVER THE INPUT: true; the input reads as it did. -/
def fnPlateEdgesSpec : ChangeSpec := { name := "fnPlateEdges", fn := fun _ => fun
  | [d] => { results := [.lit (.bool true)], args := [d] }
  | _ => none }
def fnPlateEdgesRow : OpenClaim := { program := "ythedlopfjlnogaa", sum := "f6f072c3e084bad353bc3af331c8bfcf3619f191e53e1e258bc624d89a0adfd2", func := "loop.example/mortiser/laws.FnPlateEdges", spec := "fnPlateEdges", unfollowed := true, recurses := true, apart := false }
def FnPlateEdgesSaid : Prop := fnPlateEdgesRow.holds Try.pinned (OpenSpec.ofChange fnPlateEdgesSpec)

/-- ITS FALSE NEIGHBOUR: 'it returns false'. Refute it at one input. -/
def fnPlateEdgesWrong : ChangeSpec := { name := "fnPlateEdges", fn := fun _ => fun
  | [d] => { results := [.lit (.bool false)], args := [d] }
  | _ => none }
def FnPlateEdgesWrongFalsely : Prop := fnPlateEdgesRow.holds Try.pinned (OpenSpec.ofChange fnPlateEdgesWrong)

/-- 'laws.FnExactPlateEdges': WHATEVER THE INPUT: true; the input reads as it did. -/
def fnExactPlateEdgesSpec : ChangeSpec := { name := "fnExactPlateEdges", fn := fun _ => fun
  | [d] => { results := [.lit (.bool true)], args := [d] }
  | _ => none }
def fnExactPlateEdgesRow : OpenClaim := { program := "ythedlopfjlnogaa", sum := "f6f072c3e084bad353bc3af331c8bfcf3619f191e53e1e258bc624d89a0adfd2", func := "loop.example/mortiser/laws.FnExactPlateEdges", spec := "fnExactPlateEdges", unfollowed := true, recurses := true, apart := false }
def FnExactPlateEdgesSaid : Prop := fnExactPlateEdgesRow.holds Try.pinned (OpenSpec.ofChange fnExactPlateEdgesSpec)

/-- ITS FALSE NEIGHBOUR: 'it returns false'. Refute it at one input. -/
def fnExactPlateEdgesWrong : ChangeSpec := { name := "fnExactPlateEdges", fn := fun _ => fun
  | [d] => { results := [.lit (.bool false)], args := [d] }
  | _ => none }
def FnExactPlateEdgesWrongFalsely : Prop := fnExactPlateEdgesRow.holds Try.pinned (OpenSpec.ofChange fnExactPlateEdgesWrong)

/-- 'laws.FnExactLoopEdges': WHATEVER THE INPUT: true; the input reads as it did. -/
def fnExactLoopEdgesSpec : ChangeSpec := { name := "fnExactLoopEdges", fn := fun _ => fun
  | [d] => { results := [.lit (.bool true)], args := [d] }
  | _ => none }
def fnExactLoopEdgesRow : OpenClaim := { program := "ythedlopfjlnogaa", sum := "f6f072c3e084bad353bc3af331c8bfcf3619f191e53e1e258bc624d89a0adfd2", func := "loop.example/mortiser/laws.FnExactLoopEdges", spec := "fnExactLoopEdges", unfollowed := true, recurses := true, apart := false }
def FnExactLoopEdgesSaid : Prop := fnExactLoopEdgesRow.holds Try.pinned (OpenSpec.ofChange fnExactLoopEdgesSpec)

/-- ITS FALSE NEIGHBOUR: 'it returns false'. Refute it at one input. -/
def fnExactLoopEdgesWrong : ChangeSpec := { name := "fnExactLoopEdges", fn := fun _ => fun
  | [d] => { results := [.lit (.bool false)], args := [d] }
  | _ => none }
def FnExactLoopEdgesWrongFalsely : Prop := fnExactLoopEdgesRow.holds Try.pinned (OpenSpec.ofChange fnExactLoopEdgesWrong)

/- THE SECOND FORM. 'bulk': how many values and letters a reading holds, each counted each time it is reached (what is shared counts as often as it is met; a slice's spare places count too). A statement '..UptoSaid' is the law's where the arguments, and the package variables that the reading takes, are together of bulk at most 1048576: NARROWER than '..Said'. Prove '..Said' where nothing that the law and all that it calls make is longer than what came in: it says more and counts as full. Else prove '..UptoSaid'. A law counts once. -/
mutual
def uptoBulk {H : Type} : DataW H → Nat
  | .lit (.string bytes) => bytes.length + 1
  | .lit _ => 1
  | .nil => 1
  | .ptr d => uptoBulk d + 1
  | .slice elems spare => uptoBulkAll elems + uptoBulkAll spare + 1
  | .agg parts => uptoBulkAll parts + 1
  | .iface _ d => uptoBulk d + 1
  | .map entries => uptoBulkEntries entries + 1
  | .held _ => 1
def uptoBulkAll {H : Type} : List (DataW H) → Nat
  | [] => 0
  | d :: r => uptoBulk d + uptoBulkAll r
def uptoBulkEntries {H : Type} : List (Lit × DataW H) → Nat
  | [] => 0
  | x :: r => uptoBulkEntry x + uptoBulkEntries r
def uptoBulkEntry {H : Type} : Lit × DataW H → Nat
  | (.string bytes, d) => bytes.length + uptoBulk d + 1
  | (_, d) => uptoBulk d + 1
 end
def uptoSmall : (H : Type) → List (DataW H) → Bool := fun _ ds => decide (uptoBulkAll ds ≤ 1048576)
def OpenSpec.upto (s : _root_.Go.ChangeSpec) : _root_.Go.OpenSpec := { _root_.Go.OpenSpec.ofChange s with cond := some uptoSmall }

/-- 'laws.FnPlateOver', WHERE WHAT IT READS IS OF BULK AT MOST 1048576: true; the input reads as it did. -/
def fnPlateOverUptoRow : OpenClaim := { program := "ythedlopfjlnogaa", sum := "f6f072c3e084bad353bc3af331c8bfcf3619f191e53e1e258bc624d89a0adfd2", func := "loop.example/mortiser/laws.FnPlateOver", spec := "fnPlateOver", unfollowed := true, recurses := true, apart := false, narrowed := true }
def FnPlateOverUptoSaid : Prop := fnPlateOverUptoRow.holds Try.pinned (OpenSpec.upto fnPlateOverSpec)

/-- 'laws.FnPlateHoles', WHERE WHAT IT READS IS OF BULK AT MOST 1048576: true; the input reads as it did. -/
def fnPlateHolesUptoRow : OpenClaim := { program := "ythedlopfjlnogaa", sum := "f6f072c3e084bad353bc3af331c8bfcf3619f191e53e1e258bc624d89a0adfd2", func := "loop.example/mortiser/laws.FnPlateHoles", spec := "fnPlateHoles", unfollowed := true, recurses := true, apart := false, narrowed := true }
def FnPlateHolesUptoSaid : Prop := fnPlateHolesUptoRow.holds Try.pinned (OpenSpec.upto fnPlateHolesSpec)

/-- 'laws.FnPlateFill', WHERE WHAT IT READS IS OF BULK AT MOST 1048576: true; the input reads as it did. -/
def fnPlateFillUptoRow : OpenClaim := { program := "ythedlopfjlnogaa", sum := "f6f072c3e084bad353bc3af331c8bfcf3619f191e53e1e258bc624d89a0adfd2", func := "loop.example/mortiser/laws.FnPlateFill", spec := "fnPlateFill", unfollowed := true, recurses := true, apart := false, narrowed := true }
def FnPlateFillUptoSaid : Prop := fnPlateFillUptoRow.holds Try.pinned (OpenSpec.upto fnPlateFillSpec)

/-- 'laws.FnPlateIn', WHERE WHAT IT READS IS OF BULK AT MOST 1048576: true; the input reads as it did. -/
def fnPlateInUptoRow : OpenClaim := { program := "ythedlopfjlnogaa", sum := "f6f072c3e084bad353bc3af331c8bfcf3619f191e53e1e258bc624d89a0adfd2", func := "loop.example/mortiser/laws.FnPlateIn", spec := "fnPlateIn", unfollowed := true, recurses := true, apart := false, narrowed := true }
def FnPlateInUptoSaid : Prop := fnPlateInUptoRow.holds Try.pinned (OpenSpec.upto fnPlateInSpec)

/-- 'laws.FnPlateEdges', WHERE WHAT IT READS IS OF BULK AT MOST 1048576: true; the input reads as it did. -/
def fnPlateEdgesUptoRow : OpenClaim := { program := "ythedlopfjlnogaa", sum := "f6f072c3e084bad353bc3af331c8bfcf3619f191e53e1e258bc624d89a0adfd2", func := "loop.example/mortiser/laws.FnPlateEdges", spec := "fnPlateEdges", unfollowed := true, recurses := true, apart := false, narrowed := true }
def FnPlateEdgesUptoSaid : Prop := fnPlateEdgesUptoRow.holds Try.pinned (OpenSpec.upto fnPlateEdgesSpec)

/-- 'laws.FnExactPlateEdges', WHERE WHAT IT READS IS OF BULK AT MOST 1048576: true; the input reads as it did. -/
def fnExactPlateEdgesUptoRow : OpenClaim := { program := "ythedlopfjlnogaa", sum := "f6f072c3e084bad353bc3af331c8bfcf3619f191e53e1e258bc624d89a0adfd2", func := "loop.example/mortiser/laws.FnExactPlateEdges", spec := "fnExactPlateEdges", unfollowed := true, recurses := true, apart := false, narrowed := true }
def FnExactPlateEdgesUptoSaid : Prop := fnExactPlateEdgesUptoRow.holds Try.pinned (OpenSpec.upto fnExactPlateEdgesSpec)

/-- 'laws.FnExactLoopEdges', WHERE WHAT IT READS IS OF BULK AT MOST 1048576: true; the input reads as it did. -/
def fnExactLoopEdgesUptoRow : OpenClaim := { program := "ythedlopfjlnogaa", sum := "f6f072c3e084bad353bc3af331c8bfcf3619f191e53e1e258bc624d89a0adfd2", func := "loop.example/mortiser/laws.FnExactLoopEdges", spec := "fnExactLoopEdges", unfollowed := true, recurses := true, apart := false, narrowed := true }
def FnExactLoopEdgesUptoSaid : Prop := fnExactLoopEdgesUptoRow.holds Try.pinned (OpenSpec.upto fnExactLoopEdgesSpec)

end Rows
end Go.Proofs.Ythedlopfjlnogaa
