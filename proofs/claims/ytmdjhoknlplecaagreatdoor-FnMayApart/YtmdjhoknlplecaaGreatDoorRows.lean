/-
  NARROWER THAN 'FOR EVERY INPUT', by the rows' own cells (each row's printed sentence says how): FnExactToolFits: ifaces, laid · FnExactToolMay: ifaces, laid · FnFits: ifaces, laid · FnFitsLess: ifaces, laid · FnMayBoth: ifaces, laid · FnMayApart: ifaces, laid · FnMayOver: ifaces, laid · FnFitsMost: ifaces, laid.
  DERIVED. THE GIVEN ROWS OF THIS SEAT. 8 by the template 'for every input the law returns true; each argument reads behind the call as it read before'; 0 by the template 'total and deterministic' (their statements: YtmdjhoknlplecaaGreatDoorTotals.lean).
  GIVEN WITH THE SEED: the statements are not yours to turn. If you find one false, say at which input.
  Laid BY PROGRAM, IN A SANDBOX (cutbox-rows.mjs): the forced cells as the released guide's own fill.sh prints them over the translation f138016220b96226… (all of the seat's roots in one cut). By AI agents, Wed Nov 11 2026. No macro, syntax, notation, axiom, sorry.
-/
import Derived.Test.YtmdjhoknlplecaaGreatDoorChecked
import GoSem.Claim
import GoSem.ClaimJoined
import GoSem.ClaimMapViews
import Derived.JoinedTies
import Derived.KernelRfl
namespace Go.Proofs.YtmdjhoknlplecaaGreatDoor
/- THE CELL 'sum', in the pinned program and in every row, IS THE sha256 OF THE DUMP (.gsa) THAT YtmdjhoknlplecaaGreatDoorProg.lean LOADS. Nothing in Lean hashes anything: it is a label: what it is worth is what the hold of that sum in a sandbox is worth. -/
noncomputable def Tryz.pinned : Pinned := { name := "ytmdjhoknlplecaagreatdoor", sum := "f138016220b96226062a3269770ec8bfb530adfacf7b66cbd0af61d821b028a1", checked := Tryz.checked }
namespace Rows
def none {H : Type} : Left H := { results := [], args := [] }

/- WHAT THE LISTED PACKAGE-LEVEL VARIABLES READ AS WHEN THE CALL BEGINS. Each datum BY PROGRAM (the guide's laid-datum.mjs) off the statement by which the dump's own 'gosem.cut.vars' lays the variable. In a bare row this is a premise. The card (YtmdjhoknlplecaaGreatDoorCards.lean) ties it to the program's text. -/
def laid_loop_example_mortiser_impl_errNoFrac {H : Type} : DataW H := .iface "*errors.errorString" (.ptr (.agg [.lit (.string [110, 111, 32, 102, 114, 97, 99, 116, 105, 111, 110])]))

/-- 'laws.FnExactToolFits': WHATEVER THE INPUT: true; the input reads as it did. -/
def fnExactToolFitsSpec : ChangeSpec := { name := "fnExactToolFits", vars := ["loop.example/mortiser/impl.errNoFrac"], fn := fun _ => fun
  | [d1, d2, d3, g1] => { results := [.lit (.bool true)], args := [d1, d2, d3], vars := [g1] }
  | _ => none }
def fnExactToolFitsRow : OpenClaim := { program := "ytmdjhoknlplecaagreatdoor", sum := "f138016220b96226062a3269770ec8bfb530adfacf7b66cbd0af61d821b028a1", func := "loop.example/mortiser/laws.FnExactToolFits", spec := "fnExactToolFits", inPlace := ["internal/reflectlite.TypeOf"], unfollowed := true, recurses := true, named := ["loop.example/mortiser/impl.errNoFrac"], ifaces := true, apart := false, laid := [("loop.example/mortiser/impl.errNoFrac", laid_loop_example_mortiser_impl_errNoFrac)] }
def FnExactToolFitsSaid : Prop := fnExactToolFitsRow.holds Tryz.pinned (OpenSpec.ofChange fnExactToolFitsSpec)

/-- ITS FALSE NEIGHBOUR: 'it returns false'. Refute it at one input. -/
def fnExactToolFitsWrong : ChangeSpec := { name := "fnExactToolFits", vars := ["loop.example/mortiser/impl.errNoFrac"], fn := fun _ => fun
  | [d1, d2, d3, g1] => { results := [.lit (.bool false)], args := [d1, d2, d3], vars := [g1] }
  | _ => none }
def FnExactToolFitsWrongFalsely : Prop := fnExactToolFitsRow.holds Tryz.pinned (OpenSpec.ofChange fnExactToolFitsWrong)

/-- 'laws.FnExactToolMay': WHATEVER THE INPUT: true; the input reads as it did. -/
def fnExactToolMaySpec : ChangeSpec := { name := "fnExactToolMay", vars := ["loop.example/mortiser/impl.errNoFrac"], fn := fun _ => fun
  | [d1, d2, d3, d4, g1] => { results := [.lit (.bool true)], args := [d1, d2, d3, d4], vars := [g1] }
  | _ => none }
def fnExactToolMayRow : OpenClaim := { program := "ytmdjhoknlplecaagreatdoor", sum := "f138016220b96226062a3269770ec8bfb530adfacf7b66cbd0af61d821b028a1", func := "loop.example/mortiser/laws.FnExactToolMay", spec := "fnExactToolMay", inPlace := ["internal/reflectlite.TypeOf"], unfollowed := true, recurses := true, named := ["loop.example/mortiser/impl.errNoFrac"], ifaces := true, apart := false, laid := [("loop.example/mortiser/impl.errNoFrac", laid_loop_example_mortiser_impl_errNoFrac)] }
def FnExactToolMaySaid : Prop := fnExactToolMayRow.holds Tryz.pinned (OpenSpec.ofChange fnExactToolMaySpec)

/-- ITS FALSE NEIGHBOUR: 'it returns false'. Refute it at one input. -/
def fnExactToolMayWrong : ChangeSpec := { name := "fnExactToolMay", vars := ["loop.example/mortiser/impl.errNoFrac"], fn := fun _ => fun
  | [d1, d2, d3, d4, g1] => { results := [.lit (.bool false)], args := [d1, d2, d3, d4], vars := [g1] }
  | _ => none }
def FnExactToolMayWrongFalsely : Prop := fnExactToolMayRow.holds Tryz.pinned (OpenSpec.ofChange fnExactToolMayWrong)

/-- 'laws.FnFits': WHATEVER THE INPUT: true; the input reads as it did. -/
def fnFitsSpec : ChangeSpec := { name := "fnFits", vars := ["loop.example/mortiser/impl.errNoFrac"], fn := fun _ => fun
  | [d, g1] => { results := [.lit (.bool true)], args := [d], vars := [g1] }
  | _ => none }
def fnFitsRow : OpenClaim := { program := "ytmdjhoknlplecaagreatdoor", sum := "f138016220b96226062a3269770ec8bfb530adfacf7b66cbd0af61d821b028a1", func := "loop.example/mortiser/laws.FnFits", spec := "fnFits", inPlace := ["internal/reflectlite.TypeOf"], unfollowed := true, recurses := true, named := ["loop.example/mortiser/impl.errNoFrac"], ifaces := true, apart := false, laid := [("loop.example/mortiser/impl.errNoFrac", laid_loop_example_mortiser_impl_errNoFrac)] }
def FnFitsSaid : Prop := fnFitsRow.holds Tryz.pinned (OpenSpec.ofChange fnFitsSpec)

/-- ITS FALSE NEIGHBOUR: 'it returns false'. Refute it at one input. -/
def fnFitsWrong : ChangeSpec := { name := "fnFits", vars := ["loop.example/mortiser/impl.errNoFrac"], fn := fun _ => fun
  | [d, g1] => { results := [.lit (.bool false)], args := [d], vars := [g1] }
  | _ => none }
def FnFitsWrongFalsely : Prop := fnFitsRow.holds Tryz.pinned (OpenSpec.ofChange fnFitsWrong)

/-- 'laws.FnFitsLess': WHATEVER THE INPUT: true; the input reads as it did. -/
def fnFitsLessSpec : ChangeSpec := { name := "fnFitsLess", vars := ["loop.example/mortiser/impl.errNoFrac"], fn := fun _ => fun
  | [d1, d2, g1] => { results := [.lit (.bool true)], args := [d1, d2], vars := [g1] }
  | _ => none }
def fnFitsLessRow : OpenClaim := { program := "ytmdjhoknlplecaagreatdoor", sum := "f138016220b96226062a3269770ec8bfb530adfacf7b66cbd0af61d821b028a1", func := "loop.example/mortiser/laws.FnFitsLess", spec := "fnFitsLess", inPlace := ["internal/reflectlite.TypeOf"], unfollowed := true, recurses := true, named := ["loop.example/mortiser/impl.errNoFrac"], ifaces := true, apart := false, laid := [("loop.example/mortiser/impl.errNoFrac", laid_loop_example_mortiser_impl_errNoFrac)] }
def FnFitsLessSaid : Prop := fnFitsLessRow.holds Tryz.pinned (OpenSpec.ofChange fnFitsLessSpec)

/-- ITS FALSE NEIGHBOUR: 'it returns false'. Refute it at one input. -/
def fnFitsLessWrong : ChangeSpec := { name := "fnFitsLess", vars := ["loop.example/mortiser/impl.errNoFrac"], fn := fun _ => fun
  | [d1, d2, g1] => { results := [.lit (.bool false)], args := [d1, d2], vars := [g1] }
  | _ => none }
def FnFitsLessWrongFalsely : Prop := fnFitsLessRow.holds Tryz.pinned (OpenSpec.ofChange fnFitsLessWrong)

/-- 'laws.FnMayBoth': WHATEVER THE INPUT: true; the input reads as it did. -/
def fnMayBothSpec : ChangeSpec := { name := "fnMayBoth", vars := ["loop.example/mortiser/impl.errNoFrac"], fn := fun _ => fun
  | [d1, d2, g1] => { results := [.lit (.bool true)], args := [d1, d2], vars := [g1] }
  | _ => none }
def fnMayBothRow : OpenClaim := { program := "ytmdjhoknlplecaagreatdoor", sum := "f138016220b96226062a3269770ec8bfb530adfacf7b66cbd0af61d821b028a1", func := "loop.example/mortiser/laws.FnMayBoth", spec := "fnMayBoth", inPlace := ["internal/reflectlite.TypeOf"], unfollowed := true, recurses := true, named := ["loop.example/mortiser/impl.errNoFrac"], ifaces := true, apart := false, laid := [("loop.example/mortiser/impl.errNoFrac", laid_loop_example_mortiser_impl_errNoFrac)] }
def FnMayBothSaid : Prop := fnMayBothRow.holds Tryz.pinned (OpenSpec.ofChange fnMayBothSpec)

/-- ITS FALSE NEIGHBOUR: 'it returns false'. Refute it at one input. -/
def fnMayBothWrong : ChangeSpec := { name := "fnMayBoth", vars := ["loop.example/mortiser/impl.errNoFrac"], fn := fun _ => fun
  | [d1, d2, g1] => { results := [.lit (.bool false)], args := [d1, d2], vars := [g1] }
  | _ => none }
def FnMayBothWrongFalsely : Prop := fnMayBothRow.holds Tryz.pinned (OpenSpec.ofChange fnMayBothWrong)

/-- 'laws.FnMayApart': WHATEVER THE INPUT: true; the input reads as it did. -/
def fnMayApartSpec : ChangeSpec := { name := "fnMayApart", vars := ["loop.example/mortiser/impl.errNoFrac"], fn := fun _ => fun
  | [d, g1] => { results := [.lit (.bool true)], args := [d], vars := [g1] }
  | _ => none }
def fnMayApartRow : OpenClaim := { program := "ytmdjhoknlplecaagreatdoor", sum := "f138016220b96226062a3269770ec8bfb530adfacf7b66cbd0af61d821b028a1", func := "loop.example/mortiser/laws.FnMayApart", spec := "fnMayApart", inPlace := ["internal/reflectlite.TypeOf"], unfollowed := true, recurses := true, named := ["loop.example/mortiser/impl.errNoFrac"], ifaces := true, apart := false, laid := [("loop.example/mortiser/impl.errNoFrac", laid_loop_example_mortiser_impl_errNoFrac)] }
def FnMayApartSaid : Prop := fnMayApartRow.holds Tryz.pinned (OpenSpec.ofChange fnMayApartSpec)

/-- ITS FALSE NEIGHBOUR: 'it returns false'. Refute it at one input. -/
def fnMayApartWrong : ChangeSpec := { name := "fnMayApart", vars := ["loop.example/mortiser/impl.errNoFrac"], fn := fun _ => fun
  | [d, g1] => { results := [.lit (.bool false)], args := [d], vars := [g1] }
  | _ => none }
def FnMayApartWrongFalsely : Prop := fnMayApartRow.holds Tryz.pinned (OpenSpec.ofChange fnMayApartWrong)

/-- 'laws.FnMayOver': WHATEVER THE INPUT: true; the input reads as it did. -/
def fnMayOverSpec : ChangeSpec := { name := "fnMayOver", vars := ["loop.example/mortiser/impl.errNoFrac"], fn := fun _ => fun
  | [d, g1] => { results := [.lit (.bool true)], args := [d], vars := [g1] }
  | _ => none }
def fnMayOverRow : OpenClaim := { program := "ytmdjhoknlplecaagreatdoor", sum := "f138016220b96226062a3269770ec8bfb530adfacf7b66cbd0af61d821b028a1", func := "loop.example/mortiser/laws.FnMayOver", spec := "fnMayOver", inPlace := ["internal/reflectlite.TypeOf"], unfollowed := true, recurses := true, named := ["loop.example/mortiser/impl.errNoFrac"], ifaces := true, apart := false, laid := [("loop.example/mortiser/impl.errNoFrac", laid_loop_example_mortiser_impl_errNoFrac)] }
def FnMayOverSaid : Prop := fnMayOverRow.holds Tryz.pinned (OpenSpec.ofChange fnMayOverSpec)

/-- ITS FALSE NEIGHBOUR: 'it returns false'. Refute it at one input. -/
def fnMayOverWrong : ChangeSpec := { name := "fnMayOver", vars := ["loop.example/mortiser/impl.errNoFrac"], fn := fun _ => fun
  | [d, g1] => { results := [.lit (.bool false)], args := [d], vars := [g1] }
  | _ => none }
def FnMayOverWrongFalsely : Prop := fnMayOverRow.holds Tryz.pinned (OpenSpec.ofChange fnMayOverWrong)

/-- 'laws.FnFitsMost': WHATEVER THE INPUT: true; the input reads as it did. -/
def fnFitsMostSpec : ChangeSpec := { name := "fnFitsMost", vars := ["loop.example/mortiser/impl.errNoFrac"], fn := fun _ => fun
  | [d, g1] => { results := [.lit (.bool true)], args := [d], vars := [g1] }
  | _ => none }
def fnFitsMostRow : OpenClaim := { program := "ytmdjhoknlplecaagreatdoor", sum := "f138016220b96226062a3269770ec8bfb530adfacf7b66cbd0af61d821b028a1", func := "loop.example/mortiser/laws.FnFitsMost", spec := "fnFitsMost", inPlace := ["internal/reflectlite.TypeOf"], unfollowed := true, recurses := true, named := ["loop.example/mortiser/impl.errNoFrac"], ifaces := true, apart := false, laid := [("loop.example/mortiser/impl.errNoFrac", laid_loop_example_mortiser_impl_errNoFrac)] }
def FnFitsMostSaid : Prop := fnFitsMostRow.holds Tryz.pinned (OpenSpec.ofChange fnFitsMostSpec)

/-- ITS FALSE NEIGHBOUR: 'it returns false'. Refute it at one input. -/
def fnFitsMostWrong : ChangeSpec := { name := "fnFitsMost", vars := ["loop.example/mortiser/impl.errNoFrac"], fn := fun _ => fun
  | [d, g1] => { results := [.lit (.bool false)], args := [d], vars := [g1] }
  | _ => none }
def FnFitsMostWrongFalsely : Prop := fnFitsMostRow.holds Tryz.pinned (OpenSpec.ofChange fnFitsMostWrong)

/- THE SECOND FORM. 'bulk': how many values and letters a reading holds, each counted each time it is reached (what is shared counts as often as it is met; a slice's spare places count too). A statement '..UptoSaid' is the law's where the arguments, and the package variables that the reading takes, are together of bulk at most 1048576: NARROWER than '..Said'. Prove '..Said' where nothing that the law and all that it calls make is longer than what came in: it says more and counts as full. Else prove '..UptoSaid'. A law counts once. -/
mutual
def uptoBulk {H : Type} : DataW H → Nat
  | .lit (.string bytes) => bytes.length + 1
  | .lit _ => 1
  | .nil => 1
  | .ptr d => uptoBulk d + 1
  | .slice elems spare => uptoBulkAll elems + uptoBulkAll spare + 1
  | .agg parts => uptoBulkAll parts + 1
  | .iface _ d => uptoBulk d + 1
  | .map entries => uptoBulkEntries entries + 1
  | .held _ => 1
def uptoBulkAll {H : Type} : List (DataW H) → Nat
  | [] => 0
  | d :: r => uptoBulk d + uptoBulkAll r
def uptoBulkEntries {H : Type} : List (Lit × DataW H) → Nat
  | [] => 0
  | x :: r => uptoBulkEntry x + uptoBulkEntries r
def uptoBulkEntry {H : Type} : Lit × DataW H → Nat
  | (.string bytes, d) => bytes.length + uptoBulk d + 1
  | (_, d) => uptoBulk d + 1
 end
def uptoSmall : (H : Type) → List (DataW H) → Bool := fun _ ds => decide (uptoBulkAll ds ≤ 1048576)
def OpenSpec.upto (s : _root_.Go.ChangeSpec) : _root_.Go.OpenSpec := { _root_.Go.OpenSpec.ofChange s with cond := some uptoSmall }

/-- 'laws.FnExactToolFits', WHERE WHAT IT READS IS OF BULK AT MOST 1048576: true; the input reads as it did. -/
def fnExactToolFitsUptoRow : OpenClaim := { program := "ytmdjhoknlplecaagreatdoor", sum := "f138016220b96226062a3269770ec8bfb530adfacf7b66cbd0af61d821b028a1", func := "loop.example/mortiser/laws.FnExactToolFits", spec := "fnExactToolFits", inPlace := ["internal/reflectlite.TypeOf"], unfollowed := true, recurses := true, named := ["loop.example/mortiser/impl.errNoFrac"], ifaces := true, apart := false, laid := [("loop.example/mortiser/impl.errNoFrac", laid_loop_example_mortiser_impl_errNoFrac)], narrowed := true }
def FnExactToolFitsUptoSaid : Prop := fnExactToolFitsUptoRow.holds Tryz.pinned (OpenSpec.upto fnExactToolFitsSpec)

/-- 'laws.FnExactToolMay', WHERE WHAT IT READS IS OF BULK AT MOST 1048576: true; the input reads as it did. -/
def fnExactToolMayUptoRow : OpenClaim := { program := "ytmdjhoknlplecaagreatdoor", sum := "f138016220b96226062a3269770ec8bfb530adfacf7b66cbd0af61d821b028a1", func := "loop.example/mortiser/laws.FnExactToolMay", spec := "fnExactToolMay", inPlace := ["internal/reflectlite.TypeOf"], unfollowed := true, recurses := true, named := ["loop.example/mortiser/impl.errNoFrac"], ifaces := true, apart := false, laid := [("loop.example/mortiser/impl.errNoFrac", laid_loop_example_mortiser_impl_errNoFrac)], narrowed := true }
def FnExactToolMayUptoSaid : Prop := fnExactToolMayUptoRow.holds Tryz.pinned (OpenSpec.upto fnExactToolMaySpec)

/-- 'laws.FnFits', WHERE WHAT IT READS IS OF BULK AT MOST 1048576: true; the input reads as it did. -/
def fnFitsUptoRow : OpenClaim := { program := "ytmdjhoknlplecaagreatdoor", sum := "f138016220b96226062a3269770ec8bfb530adfacf7b66cbd0af61d821b028a1", func := "loop.example/mortiser/laws.FnFits", spec := "fnFits", inPlace := ["internal/reflectlite.TypeOf"], unfollowed := true, recurses := true, named := ["loop.example/mortiser/impl.errNoFrac"], ifaces := true, apart := false, laid := [("loop.example/mortiser/impl.errNoFrac", laid_loop_example_mortiser_impl_errNoFrac)], narrowed := true }
def FnFitsUptoSaid : Prop := fnFitsUptoRow.holds Tryz.pinned (OpenSpec.upto fnFitsSpec)

/-- 'laws.FnFitsLess', WHERE WHAT IT READS IS OF BULK AT MOST 1048576: true; the input reads as it did. -/
def fnFitsLessUptoRow : OpenClaim := { program := "ytmdjhoknlplecaagreatdoor", sum := "f138016220b96226062a3269770ec8bfb530adfacf7b66cbd0af61d821b028a1", func := "loop.example/mortiser/laws.FnFitsLess", spec := "fnFitsLess", inPlace := ["internal/reflectlite.TypeOf"], unfollowed := true, recurses := true, named := ["loop.example/mortiser/impl.errNoFrac"], ifaces := true, apart := false, laid := [("loop.example/mortiser/impl.errNoFrac", laid_loop_example_mortiser_impl_errNoFrac)], narrowed := true }
def FnFitsLessUptoSaid : Prop := fnFitsLessUptoRow.holds Tryz.pinned (OpenSpec.upto fnFitsLessSpec)

/-- 'laws.FnMayBoth', WHERE WHAT IT READS IS OF BULK AT MOST 1048576: true; the input reads as it did. -/
def fnMayBothUptoRow : OpenClaim := { program := "ytmdjhoknlplecaagreatdoor", sum := "f138016220b96226062a3269770ec8bfb530adfacf7b66cbd0af61d821b028a1", func := "loop.example/mortiser/laws.FnMayBoth", spec := "fnMayBoth", inPlace := ["internal/reflectlite.TypeOf"], unfollowed := true, recurses := true, named := ["loop.example/mortiser/impl.errNoFrac"], ifaces := true, apart := false, laid := [("loop.example/mortiser/impl.errNoFrac", laid_loop_example_mortiser_impl_errNoFrac)], narrowed := true }
def FnMayBothUptoSaid : Prop := fnMayBothUptoRow.holds Tryz.pinned (OpenSpec.upto fnMayBothSpec)

/-- 'laws.FnMayApart', WHERE WHAT IT READS IS OF BULK AT MOST 1048576: true; the input reads as it did. -/
def fnMayApartUptoRow : OpenClaim := { program := "ytmdjhoknlplecaagreatdoor", sum := "f138016220b96226062a3269770ec8bfb530adfacf7b66cbd0af61d821b028a1", func := "loop.example/mortiser/laws.FnMayApart", spec := "fnMayApart", inPlace := ["internal/reflectlite.TypeOf"], unfollowed := true, recurses := true, named := ["loop.example/mortiser/impl.errNoFrac"], ifaces := true, apart := false, laid := [("loop.example/mortiser/impl.errNoFrac", laid_loop_example_mortiser_impl_errNoFrac)], narrowed := true }
def FnMayApartUptoSaid : Prop := fnMayApartUptoRow.holds Tryz.pinned (OpenSpec.upto fnMayApartSpec)

/-- 'laws.FnMayOver', WHERE WHAT IT READS IS OF BULK AT MOST 1048576: true; the input reads as it did. -/
def fnMayOverUptoRow : OpenClaim := { program := "ytmdjhoknlplecaagreatdoor", sum := "f138016220b96226062a3269770ec8bfb530adfacf7b66cbd0af61d821b028a1", func := "loop.example/mortiser/laws.FnMayOver", spec := "fnMayOver", inPlace := ["internal/reflectlite.TypeOf"], unfollowed := true, recurses := true, named := ["loop.example/mortiser/impl.errNoFrac"], ifaces := true, apart := false, laid := [("loop.example/mortiser/impl.errNoFrac", laid_loop_example_mortiser_impl_errNoFrac)], narrowed := true }
def FnMayOverUptoSaid : Prop := fnMayOverUptoRow.holds Tryz.pinned (OpenSpec.upto fnMayOverSpec)

/-- 'laws.FnFitsMost', WHERE WHAT IT READS IS OF BULK AT MOST 1048576: true; the input reads as it did. -/
def fnFitsMostUptoRow : OpenClaim := { program := "ytmdjhoknlplecaagreatdoor", sum := "f138016220b96226062a3269770ec8bfb530adfacf7b66cbd0af61d821b028a1", func := "loop.example/mortiser/laws.FnFitsMost", spec := "fnFitsMost", inPlace := ["internal/reflectlite.TypeOf"], unfollowed := true, recurses := true, named := ["loop.example/mortiser/impl.errNoFrac"], ifaces := true, apart := false, laid := [("loop.example/mortiser/impl.errNoFrac", laid_loop_example_mortiser_impl_errNoFrac)], narrowed := true }
def FnFitsMostUptoSaid : Prop := fnFitsMostUptoRow.holds Tryz.pinned (OpenSpec.upto fnFitsMostSpec)

end Rows
end Go.Proofs.YtmdjhoknlplecaaGreatDoor
