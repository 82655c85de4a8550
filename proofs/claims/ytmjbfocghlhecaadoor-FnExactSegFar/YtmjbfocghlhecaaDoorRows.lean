/-
  NARROWER THAN 'FOR EVERY INPUT', by the rows' own cells (each row's printed sentence says how): FnHasFar: ifaces, laid · FnHasMirror: ifaces, laid · FnMeetApart: ifaces, laid · FnFarEnds: ifaces, laid · FnFarLonger: ifaces, laid · FnFarAll: ifaces, laid · FnApartEnds: ifaces, laid · FnFarShift: ifaces, laid · FnApartFar: ifaces, laid · FnExactSegFar: ifaces, laid · FnExactSegApart: ifaces, laid.
  DERIVED. THE GIVEN ROWS OF THIS SEAT. 11 by the template 'for every input the law returns true; each argument reads behind the call as it read before'; 0 by the template 'total and deterministic' (their statements: YtmjbfocghlhecaaDoorTotals.lean).
  GIVEN WITH THE SEED: the statements are not yours to turn. If you find one false, say at which input.
  Laid BY PROGRAM, IN A SANDBOX (cutbox-rows.mjs): the forced cells as the released guide's own fill.sh prints them over the translation 8341f21aeadbf0f8… (all of the seat's roots in one cut). By AI agents, Wed Nov 11 2026. No macro, syntax, notation, axiom, sorry.
-/
import Derived.Test.YtmjbfocghlhecaaDoorChecked
import GoSem.Claim
import GoSem.ClaimJoined
import GoSem.ClaimMapViews
import Derived.JoinedTies
import Derived.KernelRfl
namespace Go.Proofs.YtmjbfocghlhecaaDoor
/- THE CELL 'sum', in the pinned program and in every row, IS THE sha256 OF THE DUMP (.gsa) THAT YtmjbfocghlhecaaDoorProg.lean LOADS. Nothing in Lean hashes anything: it is a label: what it is worth is what the hold of that sum in a sandbox is worth. -/
noncomputable def Tryd.pinned : Pinned := { name := "ytmjbfocghlhecaadoor", sum := "8341f21aeadbf0f826a278888d5dd87081d244d26f186317935b10b3403e8535", checked := Tryd.checked }
namespace Rows
def none {H : Type} : Left H := { results := [], args := [] }

/- WHAT THE LISTED PACKAGE-LEVEL VARIABLES READ AS WHEN THE CALL BEGINS. Each datum BY PROGRAM (the guide's laid-datum.mjs) off the statement by which the dump's own 'gosem.cut.vars' lays the variable. In a bare row this is a premise. The card (YtmjbfocghlhecaaDoorCards.lean) ties it to the program's text. -/
def laid_loop_example_mortiser_impl_errNoFrac {H : Type} : DataW H := .iface "*errors.errorString" (.ptr (.agg [.lit (.string [110, 111, 32, 102, 114, 97, 99, 116, 105, 111, 110])]))

/-- 'laws.FnHasFar': WHATEVER THE INPUT: true; the input reads as it did. -/
def fnHasFarSpec : ChangeSpec := { name := "fnHasFar", vars := ["loop.example/mortiser/impl.errNoFrac"], fn := fun _ => fun
  | [d, g1] => { results := [.lit (.bool true)], args := [d], vars := [g1] }
  | _ => none }
def fnHasFarRow : OpenClaim := { program := "ytmjbfocghlhecaadoor", sum := "8341f21aeadbf0f826a278888d5dd87081d244d26f186317935b10b3403e8535", func := "loop.example/mortiser/laws.FnHasFar", spec := "fnHasFar", inPlace := ["internal/reflectlite.TypeOf"], unfollowed := true, recurses := true, named := ["loop.example/mortiser/impl.errNoFrac"], ifaces := true, apart := false, laid := [("loop.example/mortiser/impl.errNoFrac", laid_loop_example_mortiser_impl_errNoFrac)] }
def FnHasFarSaid : Prop := fnHasFarRow.holds Tryd.pinned (OpenSpec.ofChange fnHasFarSpec)

/-- ITS FALSE NEIGHBOUR: 'it returns false'. Refute it at one input. -/
def fnHasFarWrong : ChangeSpec := { name := "fnHasFar", vars := ["loop.example/mortiser/impl.errNoFrac"], fn := fun _ => fun
  | [d, g1] => { results := [.lit (.bool false)], args := [d], vars := [g1] }
  | _ => none }
def FnHasFarWrongFalsely : Prop := fnHasFarRow.holds Tryd.pinned (OpenSpec.ofChange fnHasFarWrong)

/-- 'laws.FnHasMirror': WHATEVER THE INPUT: true; the input reads as it did. -/
def fnHasMirrorSpec : ChangeSpec := { name := "fnHasMirror", vars := ["loop.example/mortiser/impl.errNoFrac"], fn := fun _ => fun
  | [d, g1] => { results := [.lit (.bool true)], args := [d], vars := [g1] }
  | _ => none }
def fnHasMirrorRow : OpenClaim := { program := "ytmjbfocghlhecaadoor", sum := "8341f21aeadbf0f826a278888d5dd87081d244d26f186317935b10b3403e8535", func := "loop.example/mortiser/laws.FnHasMirror", spec := "fnHasMirror", inPlace := ["internal/reflectlite.TypeOf"], unfollowed := true, recurses := true, named := ["loop.example/mortiser/impl.errNoFrac"], ifaces := true, apart := false, laid := [("loop.example/mortiser/impl.errNoFrac", laid_loop_example_mortiser_impl_errNoFrac)] }
def FnHasMirrorSaid : Prop := fnHasMirrorRow.holds Tryd.pinned (OpenSpec.ofChange fnHasMirrorSpec)

/-- ITS FALSE NEIGHBOUR: 'it returns false'. Refute it at one input. -/
def fnHasMirrorWrong : ChangeSpec := { name := "fnHasMirror", vars := ["loop.example/mortiser/impl.errNoFrac"], fn := fun _ => fun
  | [d, g1] => { results := [.lit (.bool false)], args := [d], vars := [g1] }
  | _ => none }
def FnHasMirrorWrongFalsely : Prop := fnHasMirrorRow.holds Tryd.pinned (OpenSpec.ofChange fnHasMirrorWrong)

/-- 'laws.FnMeetApart': WHATEVER THE INPUT: true; the input reads as it did. -/
def fnMeetApartSpec : ChangeSpec := { name := "fnMeetApart", vars := ["loop.example/mortiser/impl.errNoFrac"], fn := fun _ => fun
  | [d, g1] => { results := [.lit (.bool true)], args := [d], vars := [g1] }
  | _ => none }
def fnMeetApartRow : OpenClaim := { program := "ytmjbfocghlhecaadoor", sum := "8341f21aeadbf0f826a278888d5dd87081d244d26f186317935b10b3403e8535", func := "loop.example/mortiser/laws.FnMeetApart", spec := "fnMeetApart", inPlace := ["internal/reflectlite.TypeOf"], unfollowed := true, recurses := true, named := ["loop.example/mortiser/impl.errNoFrac"], ifaces := true, apart := false, laid := [("loop.example/mortiser/impl.errNoFrac", laid_loop_example_mortiser_impl_errNoFrac)] }
def FnMeetApartSaid : Prop := fnMeetApartRow.holds Tryd.pinned (OpenSpec.ofChange fnMeetApartSpec)

/-- ITS FALSE NEIGHBOUR: 'it returns false'. Refute it at one input. -/
def fnMeetApartWrong : ChangeSpec := { name := "fnMeetApart", vars := ["loop.example/mortiser/impl.errNoFrac"], fn := fun _ => fun
  | [d, g1] => { results := [.lit (.bool false)], args := [d], vars := [g1] }
  | _ => none }
def FnMeetApartWrongFalsely : Prop := fnMeetApartRow.holds Tryd.pinned (OpenSpec.ofChange fnMeetApartWrong)

/-- 'laws.FnFarEnds': WHATEVER THE INPUT: true; the input reads as it did. -/
def fnFarEndsSpec : ChangeSpec := { name := "fnFarEnds", vars := ["loop.example/mortiser/impl.errNoFrac"], fn := fun _ => fun
  | [d, g1] => { results := [.lit (.bool true)], args := [d], vars := [g1] }
  | _ => none }
def fnFarEndsRow : OpenClaim := { program := "ytmjbfocghlhecaadoor", sum := "8341f21aeadbf0f826a278888d5dd87081d244d26f186317935b10b3403e8535", func := "loop.example/mortiser/laws.FnFarEnds", spec := "fnFarEnds", inPlace := ["internal/reflectlite.TypeOf"], unfollowed := true, recurses := true, named := ["loop.example/mortiser/impl.errNoFrac"], ifaces := true, apart := false, laid := [("loop.example/mortiser/impl.errNoFrac", laid_loop_example_mortiser_impl_errNoFrac)] }
def FnFarEndsSaid : Prop := fnFarEndsRow.holds Tryd.pinned (OpenSpec.ofChange fnFarEndsSpec)

/-- ITS FALSE NEIGHBOUR: 'it returns false'. Refute it at one input. -/
def fnFarEndsWrong : ChangeSpec := { name := "fnFarEnds", vars := ["loop.example/mortiser/impl.errNoFrac"], fn := fun _ => fun
  | [d, g1] => { results := [.lit (.bool false)], args := [d], vars := [g1] }
  | _ => none }
def FnFarEndsWrongFalsely : Prop := fnFarEndsRow.holds Tryd.pinned (OpenSpec.ofChange fnFarEndsWrong)

/-- 'laws.FnFarLonger': WHATEVER THE INPUT: true; the input reads as it did. -/
def fnFarLongerSpec : ChangeSpec := { name := "fnFarLonger", vars := ["loop.example/mortiser/impl.errNoFrac"], fn := fun _ => fun
  | [d, g1] => { results := [.lit (.bool true)], args := [d], vars := [g1] }
  | _ => none }
def fnFarLongerRow : OpenClaim := { program := "ytmjbfocghlhecaadoor", sum := "8341f21aeadbf0f826a278888d5dd87081d244d26f186317935b10b3403e8535", func := "loop.example/mortiser/laws.FnFarLonger", spec := "fnFarLonger", inPlace := ["internal/reflectlite.TypeOf"], unfollowed := true, recurses := true, named := ["loop.example/mortiser/impl.errNoFrac"], ifaces := true, apart := false, laid := [("loop.example/mortiser/impl.errNoFrac", laid_loop_example_mortiser_impl_errNoFrac)] }
def FnFarLongerSaid : Prop := fnFarLongerRow.holds Tryd.pinned (OpenSpec.ofChange fnFarLongerSpec)

/-- ITS FALSE NEIGHBOUR: 'it returns false'. Refute it at one input. -/
def fnFarLongerWrong : ChangeSpec := { name := "fnFarLonger", vars := ["loop.example/mortiser/impl.errNoFrac"], fn := fun _ => fun
  | [d, g1] => { results := [.lit (.bool false)], args := [d], vars := [g1] }
  | _ => none }
def FnFarLongerWrongFalsely : Prop := fnFarLongerRow.holds Tryd.pinned (OpenSpec.ofChange fnFarLongerWrong)

/-- 'laws.FnFarAll': WHATEVER THE INPUT: true; the input reads as it did. -/
def fnFarAllSpec : ChangeSpec := { name := "fnFarAll", vars := ["loop.example/mortiser/impl.errNoFrac"], fn := fun _ => fun
  | [d, g1] => { results := [.lit (.bool true)], args := [d], vars := [g1] }
  | _ => none }
def fnFarAllRow : OpenClaim := { program := "ytmjbfocghlhecaadoor", sum := "8341f21aeadbf0f826a278888d5dd87081d244d26f186317935b10b3403e8535", func := "loop.example/mortiser/laws.FnFarAll", spec := "fnFarAll", inPlace := ["internal/reflectlite.TypeOf"], unfollowed := true, recurses := true, named := ["loop.example/mortiser/impl.errNoFrac"], ifaces := true, apart := false, laid := [("loop.example/mortiser/impl.errNoFrac", laid_loop_example_mortiser_impl_errNoFrac)] }
def FnFarAllSaid : Prop := fnFarAllRow.holds Tryd.pinned (OpenSpec.ofChange fnFarAllSpec)

/-- ITS FALSE NEIGHBOUR: 'it returns false'. Refute it at one input. -/
def fnFarAllWrong : ChangeSpec := { name := "fnFarAll", vars := ["loop.example/mortiser/impl.errNoFrac"], fn := fun _ => fun
  | [d, g1] => { results := [.lit (.bool false)], args := [d], vars := [g1] }
  | _ => none }
def FnFarAllWrongFalsely : Prop := fnFarAllRow.holds Tryd.pinned (OpenSpec.ofChange fnFarAllWrong)

/-- 'laws.FnApartEnds': WHATEVER THE INPUT: true; the input reads as it did. -/
def fnApartEndsSpec : ChangeSpec := { name := "fnApartEnds", vars := ["loop.example/mortiser/impl.errNoFrac"], fn := fun _ => fun
  | [d, g1] => { results := [.lit (.bool true)], args := [d], vars := [g1] }
  | _ => none }
def fnApartEndsRow : OpenClaim := { program := "ytmjbfocghlhecaadoor", sum := "8341f21aeadbf0f826a278888d5dd87081d244d26f186317935b10b3403e8535", func := "loop.example/mortiser/laws.FnApartEnds", spec := "fnApartEnds", inPlace := ["internal/reflectlite.TypeOf"], unfollowed := true, recurses := true, named := ["loop.example/mortiser/impl.errNoFrac"], ifaces := true, apart := false, laid := [("loop.example/mortiser/impl.errNoFrac", laid_loop_example_mortiser_impl_errNoFrac)] }
def FnApartEndsSaid : Prop := fnApartEndsRow.holds Tryd.pinned (OpenSpec.ofChange fnApartEndsSpec)

/-- ITS FALSE NEIGHBOUR: 'it returns false'. Refute it at one input. -/
def fnApartEndsWrong : ChangeSpec := { name := "fnApartEnds", vars := ["loop.example/mortiser/impl.errNoFrac"], fn := fun _ => fun
  | [d, g1] => { results := [.lit (.bool false)], args := [d], vars := [g1] }
  | _ => none }
def FnApartEndsWrongFalsely : Prop := fnApartEndsRow.holds Tryd.pinned (OpenSpec.ofChange fnApartEndsWrong)

/-- 'laws.FnFarShift': WHATEVER THE INPUT: true; the input reads as it did. -/
def fnFarShiftSpec : ChangeSpec := { name := "fnFarShift", vars := ["loop.example/mortiser/impl.errNoFrac"], fn := fun _ => fun
  | [d, g1] => { results := [.lit (.bool true)], args := [d], vars := [g1] }
  | _ => none }
def fnFarShiftRow : OpenClaim := { program := "ytmjbfocghlhecaadoor", sum := "8341f21aeadbf0f826a278888d5dd87081d244d26f186317935b10b3403e8535", func := "loop.example/mortiser/laws.FnFarShift", spec := "fnFarShift", inPlace := ["internal/reflectlite.TypeOf"], unfollowed := true, recurses := true, named := ["loop.example/mortiser/impl.errNoFrac"], ifaces := true, apart := false, laid := [("loop.example/mortiser/impl.errNoFrac", laid_loop_example_mortiser_impl_errNoFrac)] }
def FnFarShiftSaid : Prop := fnFarShiftRow.holds Tryd.pinned (OpenSpec.ofChange fnFarShiftSpec)

/-- ITS FALSE NEIGHBOUR: 'it returns false'. Refute it at one input. -/
def fnFarShiftWrong : ChangeSpec := { name := "fnFarShift", vars := ["loop.example/mortiser/impl.errNoFrac"], fn := fun _ => fun
  | [d, g1] => { results := [.lit (.bool false)], args := [d], vars := [g1] }
  | _ => none }
def FnFarShiftWrongFalsely : Prop := fnFarShiftRow.holds Tryd.pinned (OpenSpec.ofChange fnFarShiftWrong)

/-- 'laws.FnApartFar': WHATEVER THE INPUT: true; the input reads as it did. -/
def fnApartFarSpec : ChangeSpec := { name := "fnApartFar", vars := ["loop.example/mortiser/impl.errNoFrac"], fn := fun _ => fun
  | [d, g1] => { results := [.lit (.bool true)], args := [d], vars := [g1] }
  | _ => none }
def fnApartFarRow : OpenClaim := { program := "ytmjbfocghlhecaadoor", sum := "8341f21aeadbf0f826a278888d5dd87081d244d26f186317935b10b3403e8535", func := "loop.example/mortiser/laws.FnApartFar", spec := "fnApartFar", inPlace := ["internal/reflectlite.TypeOf"], unfollowed := true, recurses := true, named := ["loop.example/mortiser/impl.errNoFrac"], ifaces := true, apart := false, laid := [("loop.example/mortiser/impl.errNoFrac", laid_loop_example_mortiser_impl_errNoFrac)] }
def FnApartFarSaid : Prop := fnApartFarRow.holds Tryd.pinned (OpenSpec.ofChange fnApartFarSpec)

/-- ITS FALSE NEIGHBOUR: 'it returns false'. Refute it at one input. -/
def fnApartFarWrong : ChangeSpec := { name := "fnApartFar", vars := ["loop.example/mortiser/impl.errNoFrac"], fn := fun _ => fun
  | [d, g1] => { results := [.lit (.bool false)], args := [d], vars := [g1] }
  | _ => none }
def FnApartFarWrongFalsely : Prop := fnApartFarRow.holds Tryd.pinned (OpenSpec.ofChange fnApartFarWrong)

/-- 'laws.FnExactSegFar': WHATEVER THE INPUT: true; the input reads as it did. -/
def fnExactSegFarSpec : ChangeSpec := { name := "fnExactSegFar", vars := ["loop.example/mortiser/impl.errNoFrac"], fn := fun _ => fun
  | [d1, d2, g1] => { results := [.lit (.bool true)], args := [d1, d2], vars := [g1] }
  | _ => none }
def fnExactSegFarRow : OpenClaim := { program := "ytmjbfocghlhecaadoor", sum := "8341f21aeadbf0f826a278888d5dd87081d244d26f186317935b10b3403e8535", func := "loop.example/mortiser/laws.FnExactSegFar", spec := "fnExactSegFar", inPlace := ["internal/reflectlite.TypeOf"], unfollowed := true, recurses := true, named := ["loop.example/mortiser/impl.errNoFrac"], ifaces := true, apart := false, laid := [("loop.example/mortiser/impl.errNoFrac", laid_loop_example_mortiser_impl_errNoFrac)] }
def FnExactSegFarSaid : Prop := fnExactSegFarRow.holds Tryd.pinned (OpenSpec.ofChange fnExactSegFarSpec)

/-- ITS FALSE NEIGHBOUR: 'it returns false'. Refute it at one input. -/
def fnExactSegFarWrong : ChangeSpec := { name := "fnExactSegFar", vars := ["loop.example/mortiser/impl.errNoFrac"], fn := fun _ => fun
  | [d1, d2, g1] => { results := [.lit (.bool false)], args := [d1, d2], vars := [g1] }
  | _ => none }
def FnExactSegFarWrongFalsely : Prop := fnExactSegFarRow.holds Tryd.pinned (OpenSpec.ofChange fnExactSegFarWrong)

/-- 'laws.FnExactSegApart': WHATEVER THE INPUT: true; the input reads as it did. -/
def fnExactSegApartSpec : ChangeSpec := { name := "fnExactSegApart", vars := ["loop.example/mortiser/impl.errNoFrac"], fn := fun _ => fun
  | [d1, d2, g1] => { results := [.lit (.bool true)], args := [d1, d2], vars := [g1] }
  | _ => none }
def fnExactSegApartRow : OpenClaim := { program := "ytmjbfocghlhecaadoor", sum := "8341f21aeadbf0f826a278888d5dd87081d244d26f186317935b10b3403e8535", func := "loop.example/mortiser/laws.FnExactSegApart", spec := "fnExactSegApart", inPlace := ["internal/reflectlite.TypeOf"], unfollowed := true, recurses := true, named := ["loop.example/mortiser/impl.errNoFrac"], ifaces := true, apart := false, laid := [("loop.example/mortiser/impl.errNoFrac", laid_loop_example_mortiser_impl_errNoFrac)] }
def FnExactSegApartSaid : Prop := fnExactSegApartRow.holds Tryd.pinned (OpenSpec.ofChange fnExactSegApartSpec)

/-- ITS FALSE NEIGHBOUR: 'it returns false'. Refute it at one input. -/
def fnExactSegApartWrong : ChangeSpec := { name := "fnExactSegApart", vars := ["loop.example/mortiser/impl.errNoFrac"], fn := fun _ => fun
  | [d1, d2, g1] => { results := [.lit (.bool false)], args := [d1, d2], vars := [g1] }
  | _ => none }
def FnExactSegApartWrongFalsely : Prop := fnExactSegApartRow.holds Tryd.pinned (OpenSpec.ofChange fnExactSegApartWrong)

/- THE SECOND FORM. 'bulk': how many values and letters a reading holds, each counted each time it is reached (what is shared counts as often as it is met; a slice's spare places count too). A statement '..UptoSaid' is the law's where the arguments, and the package variables that the reading takes, are together of bulk at most 1048576: NARROWER than '..Said'. Prove '..Said' where nothing that the law and all that it calls make is longer than what came in: it says more and counts as full. Else prove '..UptoSaid'. A law counts once. -/
mutual
def uptoBulk {H : Type} : DataW H → Nat
  | .lit (.string bytes) => bytes.length + 1
  | .lit _ => 1
  | .nil => 1
  | .ptr d => uptoBulk d + 1
  | .slice elems spare => uptoBulkAll elems + uptoBulkAll spare + 1
  | .agg parts => uptoBulkAll parts + 1
  | .iface _ d => uptoBulk d + 1
  | .map entries => uptoBulkEntries entries + 1
  | .held _ => 1
def uptoBulkAll {H : Type} : List (DataW H) → Nat
  | [] => 0
  | d :: r => uptoBulk d + uptoBulkAll r
def uptoBulkEntries {H : Type} : List (Lit × DataW H) → Nat
  | [] => 0
  | x :: r => uptoBulkEntry x + uptoBulkEntries r
def uptoBulkEntry {H : Type} : Lit × DataW H → Nat
  | (.string bytes, d) => bytes.length + uptoBulk d + 1
  | (_, d) => uptoBulk d + 1
 end
def uptoSmall : (H : Type) → List (DataW H) → Bool := fun _ ds => decide (uptoBulkAll ds ≤ 1048576)
def OpenSpec.upto (s : _root_.Go.ChangeSpec) : _root_.Go.OpenSpec := { _root_.Go.OpenSpec.ofChange s with cond := some uptoSmall }

/-- 'laws.FnHasFar', WHERE WHAT IT READS IS OF BULK AT MOST 1048576: true; the input reads as it did. -/
def fnHasFarUptoRow : OpenClaim := { program := "ytmjbfocghlhecaadoor", sum := "8341f21aeadbf0f826a278888d5dd87081d244d26f186317935b10b3403e8535", func := "loop.example/mortiser/laws.FnHasFar", spec := "fnHasFar", inPlace := ["internal/reflectlite.TypeOf"], unfollowed := true, recurses := true, named := ["loop.example/mortiser/impl.errNoFrac"], ifaces := true, apart := false, laid := [("loop.example/mortiser/impl.errNoFrac", laid_loop_example_mortiser_impl_errNoFrac)], narrowed := true }
def FnHasFarUptoSaid : Prop := fnHasFarUptoRow.holds Tryd.pinned (OpenSpec.upto fnHasFarSpec)

/-- 'laws.FnHasMirror', WHERE WHAT IT READS IS OF BULK AT MOST 1048576: true; the input reads as it did. -/
def fnHasMirrorUptoRow : OpenClaim := { program := "ytmjbfocghlhecaadoor", sum := "8341f21aeadbf0f826a278888d5dd87081d244d26f186317935b10b3403e8535", func := "loop.example/mortiser/laws.FnHasMirror", spec := "fnHasMirror", inPlace := ["internal/reflectlite.TypeOf"], unfollowed := true, recurses := true, named := ["loop.example/mortiser/impl.errNoFrac"], ifaces := true, apart := false, laid := [("loop.example/mortiser/impl.errNoFrac", laid_loop_example_mortiser_impl_errNoFrac)], narrowed := true }
def FnHasMirrorUptoSaid : Prop := fnHasMirrorUptoRow.holds Tryd.pinned (OpenSpec.upto fnHasMirrorSpec)

/-- 'laws.FnMeetApart', WHERE WHAT IT READS IS OF BULK AT MOST 1048576: true; the input reads as it did. -/
def fnMeetApartUptoRow : OpenClaim := { program := "ytmjbfocghlhecaadoor", sum := "8341f21aeadbf0f826a278888d5dd87081d244d26f186317935b10b3403e8535", func := "loop.example/mortiser/laws.FnMeetApart", spec := "fnMeetApart", inPlace := ["internal/reflectlite.TypeOf"], unfollowed := true, recurses := true, named := ["loop.example/mortiser/impl.errNoFrac"], ifaces := true, apart := false, laid := [("loop.example/mortiser/impl.errNoFrac", laid_loop_example_mortiser_impl_errNoFrac)], narrowed := true }
def FnMeetApartUptoSaid : Prop := fnMeetApartUptoRow.holds Tryd.pinned (OpenSpec.upto fnMeetApartSpec)

/-- 'laws.FnFarEnds', WHERE WHAT IT READS IS OF BULK AT MOST 1048576: true; the input reads as it did. -/
def fnFarEndsUptoRow : OpenClaim := { program := "ytmjbfocghlhecaadoor", sum := "8341f21aeadbf0f826a278888d5dd87081d244d26f186317935b10b3403e8535", func := "loop.example/mortiser/laws.FnFarEnds", spec := "fnFarEnds", inPlace := ["internal/reflectlite.TypeOf"], unfollowed := true, recurses := true, named := ["loop.example/mortiser/impl.errNoFrac"], ifaces := true, apart := false, laid := [("loop.example/mortiser/impl.errNoFrac", laid_loop_example_mortiser_impl_errNoFrac)], narrowed := true }
def FnFarEndsUptoSaid : Prop := fnFarEndsUptoRow.holds Tryd.pinned (OpenSpec.upto fnFarEndsSpec)

/-- 'laws.FnFarLonger', WHERE WHAT IT READS IS OF BULK AT MOST 1048576: true; the input reads as it did. -/
def fnFarLongerUptoRow : OpenClaim := { program := "ytmjbfocghlhecaadoor", sum := "8341f21aeadbf0f826a278888d5dd87081d244d26f186317935b10b3403e8535", func := "loop.example/mortiser/laws.FnFarLonger", spec := "fnFarLonger", inPlace := ["internal/reflectlite.TypeOf"], unfollowed := true, recurses := true, named := ["loop.example/mortiser/impl.errNoFrac"], ifaces := true, apart := false, laid := [("loop.example/mortiser/impl.errNoFrac", laid_loop_example_mortiser_impl_errNoFrac)], narrowed := true }
def FnFarLongerUptoSaid : Prop := fnFarLongerUptoRow.holds Tryd.pinned (OpenSpec.upto fnFarLongerSpec)

/-- 'laws.FnFarAll', WHERE WHAT IT READS IS OF BULK AT MOST 1048576: true; the input reads as it did. -/
def fnFarAllUptoRow : OpenClaim := { program := "ytmjbfocghlhecaadoor", sum := "8341f21aeadbf0f826a278888d5dd87081d244d26f186317935b10b3403e8535", func := "loop.example/mortiser/laws.FnFarAll", spec := "fnFarAll", inPlace := ["internal/reflectlite.TypeOf"], unfollowed := true, recurses := true, named := ["loop.example/mortiser/impl.errNoFrac"], ifaces := true, apart := false, laid := [("loop.example/mortiser/impl.errNoFrac", laid_loop_example_mortiser_impl_errNoFrac)], narrowed := true }
def FnFarAllUptoSaid : Prop := fnFarAllUptoRow.holds Tryd.pinned (OpenSpec.upto fnFarAllSpec)

/-- 'laws.FnApartEnds', WHERE WHAT IT READS IS OF BULK AT MOST 1048576: true; the input reads as it did. -/
def fnApartEndsUptoRow : OpenClaim := { program := "ytmjbfocghlhecaadoor", sum := "8341f21aeadbf0f826a278888d5dd87081d244d26f186317935b10b3403e8535", func := "loop.example/mortiser/laws.FnApartEnds", spec := "fnApartEnds", inPlace := ["internal/reflectlite.TypeOf"], unfollowed := true, recurses := true, named := ["loop.example/mortiser/impl.errNoFrac"], ifaces := true, apart := false, laid := [("loop.example/mortiser/impl.errNoFrac", laid_loop_example_mortiser_impl_errNoFrac)], narrowed := true }
def FnApartEndsUptoSaid : Prop := fnApartEndsUptoRow.holds Tryd.pinned (OpenSpec.upto fnApartEndsSpec)

/-- 'laws.FnFarShift', WHERE WHAT IT READS IS OF BULK AT MOST 1048576: true; the input reads as it did. -/
def fnFarShiftUptoRow : OpenClaim := { program := "ytmjbfocghlhecaadoor", sum := "8341f21aeadbf0f826a278888d5dd87081d244d26f186317935b10b3403e8535", func := "loop.example/mortiser/laws.FnFarShift", spec := "fnFarShift", inPlace := ["internal/reflectlite.TypeOf"], unfollowed := true, recurses := true, named := ["loop.example/mortiser/impl.errNoFrac"], ifaces := true, apart := false, laid := [("loop.example/mortiser/impl.errNoFrac", laid_loop_example_mortiser_impl_errNoFrac)], narrowed := true }
def FnFarShiftUptoSaid : Prop := fnFarShiftUptoRow.holds Tryd.pinned (OpenSpec.upto fnFarShiftSpec)

/-- 'laws.FnApartFar', WHERE WHAT IT READS IS OF BULK AT MOST 1048576: true; the input reads as it did. -/
def fnApartFarUptoRow : OpenClaim := { program := "ytmjbfocghlhecaadoor", sum := "8341f21aeadbf0f826a278888d5dd87081d244d26f186317935b10b3403e8535", func := "loop.example/mortiser/laws.FnApartFar", spec := "fnApartFar", inPlace := ["internal/reflectlite.TypeOf"], unfollowed := true, recurses := true, named := ["loop.example/mortiser/impl.errNoFrac"], ifaces := true, apart := false, laid := [("loop.example/mortiser/impl.errNoFrac", laid_loop_example_mortiser_impl_errNoFrac)], narrowed := true }
def FnApartFarUptoSaid : Prop := fnApartFarUptoRow.holds Tryd.pinned (OpenSpec.upto fnApartFarSpec)

/-- 'laws.FnExactSegFar', WHERE WHAT IT READS IS OF BULK AT MOST 1048576: true; the input reads as it did. -/
def fnExactSegFarUptoRow : OpenClaim := { program := "ytmjbfocghlhecaadoor", sum := "8341f21aeadbf0f826a278888d5dd87081d244d26f186317935b10b3403e8535", func := "loop.example/mortiser/laws.FnExactSegFar", spec := "fnExactSegFar", inPlace := ["internal/reflectlite.TypeOf"], unfollowed := true, recurses := true, named := ["loop.example/mortiser/impl.errNoFrac"], ifaces := true, apart := false, laid := [("loop.example/mortiser/impl.errNoFrac", laid_loop_example_mortiser_impl_errNoFrac)], narrowed := true }
def FnExactSegFarUptoSaid : Prop := fnExactSegFarUptoRow.holds Tryd.pinned (OpenSpec.upto fnExactSegFarSpec)

/-- 'laws.FnExactSegApart', WHERE WHAT IT READS IS OF BULK AT MOST 1048576: true; the input reads as it did. -/
def fnExactSegApartUptoRow : OpenClaim := { program := "ytmjbfocghlhecaadoor", sum := "8341f21aeadbf0f826a278888d5dd87081d244d26f186317935b10b3403e8535", func := "loop.example/mortiser/laws.FnExactSegApart", spec := "fnExactSegApart", inPlace := ["internal/reflectlite.TypeOf"], unfollowed := true, recurses := true, named := ["loop.example/mortiser/impl.errNoFrac"], ifaces := true, apart := false, laid := [("loop.example/mortiser/impl.errNoFrac", laid_loop_example_mortiser_impl_errNoFrac)], narrowed := true }
def FnExactSegApartUptoSaid : Prop := fnExactSegApartUptoRow.holds Tryd.pinned (OpenSpec.upto fnExactSegApartSpec)

end Rows
end Go.Proofs.YtmjbfocghlhecaaDoor
