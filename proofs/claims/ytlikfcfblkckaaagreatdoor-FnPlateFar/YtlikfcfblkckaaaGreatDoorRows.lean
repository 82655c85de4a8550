/-
  NARROWER THAN 'FOR EVERY INPUT', by the rows' own cells (each row's printed sentence says how): FnPlateFar: ifaces, laid · FnPlateNear: ifaces, laid · FnExactPlateNear: ifaces, laid.
  DERIVED. THE GIVEN ROWS OF THIS SEAT. 3 by the template 'for every input the law returns true; each argument reads behind the call as it read before'; 0 by the template 'total and deterministic' (their statements: YtlikfcfblkckaaaGreatDoorTotals.lean).
  GIVEN WITH THE SEED: the statements are not yours to turn. If you find one false, say at which input.
  Laid BY PROGRAM, IN A SANDBOX (cutbox-rows.mjs): the forced cells as the released guide's own fill.sh prints them over the translation 38793cf7f60eef92… (all of the seat's roots in one cut). By AI agents, Wed Nov 11 2026. No macro, syntax, notation, axiom, sorry.
-/
import Derived.Test.YtlikfcfblkckaaaGreatDoorChecked
import GoSem.Claim
import GoSem.ClaimJoined
import GoSem.ClaimMapViews
import Derived.JoinedTies
import Derived.KernelRfl
namespace Go.Proofs.YtlikfcfblkckaaaGreatDoor
/- THE CELL 'sum', in the pinned program and in every row, IS THE sha256 OF THE DUMP (.gsa) THAT YtlikfcfblkckaaaGreatDoorProg.lean LOADS. Nothing in Lean hashes anything: it is a label: what it is worth is what the hold of that sum in a sandbox is worth. -/
noncomputable def Tryz.pinned : Pinned := { name := "ytlikfcfblkckaaagreatdoor", sum := "38793cf7f60eef9298b16e5fc6f372c9c1a9dceb2b963622cd71bc8d9aa6a406", checked := Tryz.checked }
namespace Rows
def none {H : Type} : Left H := { results := [], args := [] }

/- WHAT THE LISTED PACKAGE-LEVEL VARIABLES READ AS WHEN THE CALL BEGINS. Each datum BY PROGRAM (the guide's laid-datum.mjs) off the statement by which the dump's own 'gosem.cut.vars' lays the variable. In a bare row this is a premise. The card (YtlikfcfblkckaaaGreatDoorCards.lean) ties it to the program's text. -/
def laid_loop_example_mortiser_impl_errNoFrac {H : Type} : DataW H := .iface "*errors.errorString" (.ptr (.agg [.lit (.string [110, 111, 32, 102, 114, 97, 99, 116, 105, 111, 110])]))

/-- 'laws.FnPlateFar': WHATEVER THE INPUT: true; the input reads as it did. -/
def fnPlateFarSpec : ChangeSpec := { name := "fnPlateFar", vars := ["loop.example/mortiser/impl.errNoFrac"], fn := fun _ => fun
  | [d, g1] => { results := [.lit (.bool true)], args := [d], vars := [g1] }
  | _ => none }
def fnPlateFarRow : OpenClaim := { program := "ytlikfcfblkckaaagreatdoor", sum := "38793cf7f60eef9298b16e5fc6f372c9c1a9dceb2b963622cd71bc8d9aa6a406", func := "loop.example/mortiser/laws.FnPlateFar", spec := "fnPlateFar", inPlace := ["internal/reflectlite.TypeOf"], unfollowed := true, recurses := true, named := ["loop.example/mortiser/impl.errNoFrac"], ifaces := true, apart := false, laid := [("loop.example/mortiser/impl.errNoFrac", laid_loop_example_mortiser_impl_errNoFrac)] }
def FnPlateFarSaid : Prop := fnPlateFarRow.holds Tryz.pinned (OpenSpec.ofChange fnPlateFarSpec)

/-- ITS FALSE NEIGHBOUR: 'it returns false'. Refute it at one input. -/
def fnPlateFarWrong : ChangeSpec := { name := "fnPlateFar", vars := ["loop.example/mortiser/impl.errNoFrac"], fn := fun _ => fun
  | [d, g1] => { results := [.lit (.bool false)], args := [d], vars := [g1] }
  | _ => none }
def FnPlateFarWrongFalsely : Prop := fnPlateFarRow.holds Tryz.pinned (OpenSpec.ofChange fnPlateFarWrong)

/-- 'laws.FnPlateNear': WHATEVER THE INPUT: true; the input reads as it did. -/
def fnPlateNearSpec : ChangeSpec := { name := "fnPlateNear", vars := ["loop.example/mortiser/impl.errNoFrac"], fn := fun _ => fun
  | [d, g1] => { results := [.lit (.bool true)], args := [d], vars := [g1] }
  | _ => none }
def fnPlateNearRow : OpenClaim := { program := "ytlikfcfblkckaaagreatdoor", sum := "38793cf7f60eef9298b16e5fc6f372c9c1a9dceb2b963622cd71bc8d9aa6a406", func := "loop.example/mortiser/laws.FnPlateNear", spec := "fnPlateNear", inPlace := ["internal/reflectlite.TypeOf"], unfollowed := true, recurses := true, named := ["loop.example/mortiser/impl.errNoFrac"], ifaces := true, apart := false, laid := [("loop.example/mortiser/impl.errNoFrac", laid_loop_example_mortiser_impl_errNoFrac)] }
def FnPlateNearSaid : Prop := fnPlateNearRow.holds Tryz.pinned (OpenSpec.ofChange fnPlateNearSpec)

/-- ITS FALSE NEIGHBOUR: 'it returns false'. Refute it at one input. -/
def fnPlateNearWrong : ChangeSpec := { name := "fnPlateNear", vars := ["loop.example/mortiser/impl.errNoFrac"], fn := fun _ => fun
  | [d, g1] => { results := [.lit (.bool false)], args := [d], vars := [g1] }
  | _ => none }
def FnPlateNearWrongFalsely : Prop := fnPlateNearRow.holds Tryz.pinned (OpenSpec.ofChange fnPlateNearWrong)

/-- 'laws.FnExactPlateNear': WHATEVER THE INPUT: true; the input reads as it did. -/
def fnExactPlateNearSpec : ChangeSpec := { name := "fnExactPlateNear", vars := ["loop.example/mortiser/impl.errNoFrac"], fn := fun _ => fun
  | [d1, d2, g1] => { results := [.lit (.bool true)], args := [d1, d2], vars := [g1] }
  | _ => none }
def fnExactPlateNearRow : OpenClaim := { program := "ytlikfcfblkckaaagreatdoor", sum := "38793cf7f60eef9298b16e5fc6f372c9c1a9dceb2b963622cd71bc8d9aa6a406", func := "loop.example/mortiser/laws.FnExactPlateNear", spec := "fnExactPlateNear", inPlace := ["internal/reflectlite.TypeOf"], unfollowed := true, recurses := true, named := ["loop.example/mortiser/impl.errNoFrac"], ifaces := true, apart := false, laid := [("loop.example/mortiser/impl.errNoFrac", laid_loop_example_mortiser_impl_errNoFrac)] }
def FnExactPlateNearSaid : Prop := fnExactPlateNearRow.holds Tryz.pinned (OpenSpec.ofChange fnExactPlateNearSpec)

/-- ITS FALSE NEIGHBOUR: 'it returns false'. Refute it at one input. -/
def fnExactPlateNearWrong : ChangeSpec := { name := "fnExactPlateNear", vars := ["loop.example/mortiser/impl.errNoFrac"], fn := fun _ => fun
  | [d1, d2, g1] => { results := [.lit (.bool false)], args := [d1, d2], vars := [g1] }
  | _ => none }
def FnExactPlateNearWrongFalsely : Prop := fnExactPlateNearRow.holds Tryz.pinned (OpenSpec.ofChange fnExactPlateNearWrong)

/- THE SECOND FORM. 'bulk': how many values and letters a reading holds, each counted each time it is reached (what is shared counts as often as it is met; a slice's spare places count too). A statement '..UptoSaid' is the law's where the arguments, and the package variables that the reading takes, are together of bulk at most 1048576: NARROWER than '..Said'. Prove '..Said' where nothing that the law and all that it calls make is longer than what came in: it says more and counts as full. Else prove '..UptoSaid'. A law counts once. -/
mutual
def uptoBulk {H : Type} : DataW H → Nat
  | .lit (.string bytes) => bytes.length + 1
  | .lit _ => 1
  | .nil => 1
  | .ptr d => uptoBulk d + 1
  | .slice elems spare => uptoBulkAll elems + uptoBulkAll spare + 1
  | .agg parts => uptoBulkAll parts + 1
  | .iface _ d => uptoBulk d + 1
  | .map entries => uptoBulkEntries entries + 1
  | .held _ => 1
def uptoBulkAll {H : Type} : List (DataW H) → Nat
  | [] => 0
  | d :: r => uptoBulk d + uptoBulkAll r
def uptoBulkEntries {H : Type} : List (Lit × DataW H) → Nat
  | [] => 0
  | x :: r => uptoBulkEntry x + uptoBulkEntries r
def uptoBulkEntry {H : Type} : Lit × DataW H → Nat
  | (.string bytes, d) => bytes.length + uptoBulk d + 1
  | (_, d) => uptoBulk d + 1
 end
def uptoSmall : (H : Type) → List (DataW H) → Bool := fun _ ds => decide (uptoBulkAll ds ≤ 1048576)
def OpenSpec.upto (s : _root_.Go.ChangeSpec) : _root_.Go.OpenSpec := { _root_.Go.OpenSpec.ofChange s with cond := some uptoSmall }

/-- 'laws.FnPlateFar', WHERE WHAT IT READS IS OF BULK AT MOST 1048576: true; the input reads as it did. -/
def fnPlateFarUptoRow : OpenClaim := { program := "ytlikfcfblkckaaagreatdoor", sum := "38793cf7f60eef9298b16e5fc6f372c9c1a9dceb2b963622cd71bc8d9aa6a406", func := "loop.example/mortiser/laws.FnPlateFar", spec := "fnPlateFar", inPlace := ["internal/reflectlite.TypeOf"], unfollowed := true, recurses := true, named := ["loop.example/mortiser/impl.errNoFrac"], ifaces := true, apart := false, laid := [("loop.example/mortiser/impl.errNoFrac", laid_loop_example_mortiser_impl_errNoFrac)], narrowed := true }
def FnPlateFarUptoSaid : Prop := fnPlateFarUptoRow.holds Tryz.pinned (OpenSpec.upto fnPlateFarSpec)

/-- 'laws.FnPlateNear', WHERE WHAT IT READS IS OF BULK AT MOST 1048576: true; the input reads as it did. -/
def fnPlateNearUptoRow : OpenClaim := { program := "ytlikfcfblkckaaagreatdoor", sum := "38793cf7f60eef9298b16e5fc6f372c9c1a9dceb2b963622cd71bc8d9aa6a406", func := "loop.example/mortiser/laws.FnPlateNear", spec := "fnPlateNear", inPlace := ["internal/reflectlite.TypeOf"], unfollowed := true, recurses := true, named := ["loop.example/mortiser/impl.errNoFrac"], ifaces := true, apart := false, laid := [("loop.example/mortiser/impl.errNoFrac", laid_loop_example_mortiser_impl_errNoFrac)], narrowed := true }
def FnPlateNearUptoSaid : Prop := fnPlateNearUptoRow.holds Tryz.pinned (OpenSpec.upto fnPlateNearSpec)

/-- 'laws.FnExactPlateNear', WHERE WHAT IT READS IS OF BULK AT MOST 1048576: true; the input reads as it did. -/
def fnExactPlateNearUptoRow : OpenClaim := { program := "ytlikfcfblkckaaagreatdoor", sum := "38793cf7f60eef9298b16e5fc6f372c9c1a9dceb2b963622cd71bc8d9aa6a406", func := "loop.example/mortiser/laws.FnExactPlateNear", spec := "fnExactPlateNear", inPlace := ["internal/reflectlite.TypeOf"], unfollowed := true, recurses := true, named := ["loop.example/mortiser/impl.errNoFrac"], ifaces := true, apart := false, laid := [("loop.example/mortiser/impl.errNoFrac", laid_loop_example_mortiser_impl_errNoFrac)], narrowed := true }
def FnExactPlateNearUptoSaid : Prop := fnExactPlateNearUptoRow.holds Tryz.pinned (OpenSpec.upto fnExactPlateNearSpec)

end Rows
end Go.Proofs.YtlikfcfblkckaaaGreatDoor
