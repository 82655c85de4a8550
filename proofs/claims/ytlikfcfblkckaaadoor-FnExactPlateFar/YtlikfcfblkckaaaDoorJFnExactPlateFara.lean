/-
  OUR OWN TEXT. The law FnExactPlateFar, for every input: the call returns true, and each argument reads as it did. Texts of ours, joined, so that the claim keeps to its number of files. Conditions: none but the row's own.
-/
import Derived.Test.YtlikfcfblkckaaaDoorChecked
import Derived.WalkKit
import Derived.LaidEql
import Derived.Stop.Asserts
import Derived.RowKitTokens
import Derived.Test.YtlikfcfblkckaaaDoorGcd
import Derived.Deep.RegionWith
import Derived.Below
import Derived.Test.YtlikfcfblkckaaaDoorBoxes
import Derived.Deep.RegionHeld3
import Derived.Test.YtlikfcfblkckaaaDoorSHas
import Derived.Laws.EntriesVeiled
import Derived.Test.YtlikfcfblkckaaaDoorRingE
import Derived.Test.YtlikfcfblkckaaaDoorGeoApart
import Derived.Test.YtlikfcfblkckaaaDoorPlateI
import Derived.Test.YtlikfcfblkckaaaDoorWhere
import Derived.Test.YtlikfcfblkckaaaDoorBoard
import Derived.Test.YtlikfcfblkckaaaDoorOk
import Derived.Test.YtlikfcfblkckaaaDoorSEdge
import Derived.Test.YtlikfcfblkckaaaDoorSOk
import Derived.Test.YtlikfcfblkckaaaDoorEqSegs
import Derived.Test.YtlikfcfblkckaaaDoorLoopX
import Derived.Test.YtlikfcfblkckaaaDoorPass
import Derived.Test.YtlikfcfblkckaaaDoorBack
import Derived.Deep.DeepAppendWide
import Derived.Test.YtlikfcfblkckaaaDoorToPlate2
import Derived.Test.YtlikfcfblkckaaaDoorOpenPlate
import Derived.Test.YtlikfcfblkckaaaDoorCards
import Derived.Test.YtlikfcfblkckaaaDoorTie
import Derived.ProofKit
import Derived.OpenShut
import Derived.LaidMore
import Derived.MakeChecks
import Derived.Stop.Joined
import Derived.Stop.LaidErr
import Derived.WalkSmall
import Derived.ChangeOld
import Derived.Test.YtlikfcfblkckaaaDoorOpenSeg
import Derived.Lib.SmallJoins
namespace Go.Proofs.YtlikfcfblkckaaaDoor
open Go.RowKit Go.Extern.Stop Go.Stop Go.Extern

theorem isTypeOf (v : Value) (w : World) : (Extern.ReflectliteType.typeOf #[.iface 145 v]).run Tryd.prog w = .ok (.iface 124 (.agg #[.pointer (some ⟨1, 145, none⟩)])) w := by kernel_rfl
/-- What the model lays for (rtype).Comparable, under a name. -/
def cmpF : Array Value → Sem Value := Extern.ReflectliteType.method fun t => do Extern.Rtype.noPackHeld "Comparable" t; pure (.bool (← typeInfo t).comparable)
theorem isComparable (w : World) : (cmpF #[.agg #[.pointer (some ⟨1, 145, none⟩)]]).run Tryd.prog w = .ok (.bool true) w := by kernel_rfl
theorem isMethodComparable (v : Value) (w : World) : (Go.method 282 124 v "Comparable").run Tryd.prog w = .ok (117, v) w := by kernel_rfl
theorem isComp : (Tryd.prog.info? 145).map (·.comparable) = some true := by kernel_rfl
theorem isSize : (Tryd.prog.info? 170).map (·.size) = some 1 := by kernel_rfl

set_option maxRecDepth 100000 in
/-- errors.Is(x, x), x a pointer to an errors.errorString. -/
theorem is_same (a : Addr) (w : World) :
    Calls Tryd.prog 29 #[.iface 145 (.pointer (some a)), .iface 145 (.pointer (some a))] w fun e w' => e = .returned (.bool true) ∧ w' = w := by
  obtain ⟨i, hi, hcmp⟩ := Option.map_eq_some_iff.1 isComp
  obtain ⟨j, hj, hjs⟩ := Option.map_eq_some_iff.1 isSize
  have h8 := @run_callFunc_extern Tryd.prog 55 _ Extern.ReflectliteType.typeOf Tryd.func55 (by kernel_rfl) (by kernel_rfl) (by kernel_rfl) (by kernel_rfl)
  have h32 := @run_callFunc_extern Tryd.prog 117 _ cmpF Tryd.func117 (by kernel_rfl) (by kernel_rfl) (by kernel_rfl) (by kernel_rfl)
  have tT := isTypeOf
  have cT := isComparable
  have mR := isMethodComparable
  have heq := run_eql_iface_ptr_same (P := Tryd.prog) w a Tryd.underlying67 Tryd.underlying145 hi hcmp hj
  go_enter Tryd.func29, Tryd.ntmps29
  go_wp2
  refine wp_loop_rounds 1 ?_
  rw [rounds_succ]
  go_wp2
  go_ret
  exact ⟨rfl, rfl⟩

set_option maxRecDepth 100000 in
/-- errors.Is(nil, x). -/
theorem is_nil (b : Addr) (w : World) :
    Calls Tryd.prog 29 #[.nilIface, .iface 145 (.pointer (some b))] w fun e w' => e = .returned (.bool false) ∧ w' = w := by
  have hn := run_eql_iface_nil_left (P := Tryd.prog) w 145 (.pointer (some b)) Tryd.underlying67
  go_enter Tryd.func29, Tryd.ntmps29
  go_wp2
  go_ret
  exact ⟨rfl, rfl⟩
end Go.Proofs.YtlikfcfblkckaaaDoor
namespace Go.Proofs.YtlikfcfblkckaaaDoor
open Go.RowKit

/-- The sentinel's variable holds the pointer a. -/
def Sent (a : Addr) (w : World) : Prop := w.cell? ⟨0, 0, none⟩ = some (.iface 145 (.pointer (some a)))
theorem Sent.lt {a : Addr} {w : World} (h : Sent a w) : 0 < w.heap.size := by
  rcases Nat.lt_or_ge 0 w.heap.size with h' | h'
  · exact h'
  · unfold Sent at h; simp [World.cell?, Array.getElem?_eq_none h'] at h
theorem Sent.below {a : Addr} {w w' : World} (h : Sent a w) (hb : Below w.heap.size w w') : Sent a w' := by
  have hl := h.lt
  unfold Sent at *; rw [hb.cell (p := ⟨0, 0, none⟩) hl]; exact h



theorem divide_bad (n d : Int) (a : Addr) (w : World) (hs : Sent a w) (h : inB n d = false) :
    Calls Tryd.prog 54 #[.int .i64 n, .int .i64 d] w fun e w' => e = .returned (.tuple #[.nilIface, .iface 145 (.pointer (some a))]) ∧ ∃ m, w' = w.drewN m := by
  rw [inB_not] at h
  unfold Sent at hs
  have hc : n < 0 ∨ (0 ≤ n ∧ 99999 < n) ∨ (0 ≤ n ∧ n ≤ 99999 ∧ d < 1) ∨ (0 ≤ n ∧ n ≤ 99999 ∧ 1 ≤ d ∧ 99999 < d) := by omega
  clear h
  rcases hc with h1 | ⟨h1, h2⟩ | ⟨h1, h2, h3⟩ | ⟨h1, h2, h3, h4⟩
  all_goals
    go_enter Tryd.func54, Tryd.ntmps54
    go_wp2
    go_quiet (fail)
    go_wp2
    go_ret2
    exact ⟨rfl, _, rfl⟩

theorem divide_ok (n d : Int) (w : World) (h : inB n d = true) :
    Calls Tryd.prog 54 #[.int .i64 n, .int .i64 d] w fun e w' => e = .returned (.tuple #[.iface 122 (.agg #[.int .i64 (n / G n d), .int .i64 (d / G n d)]), .nilIface]) ∧ ∃ m, w' = w.drewN m := by
  rw [inB_iff] at h
  obtain ⟨h1, h2, h3, h4⟩ := h
  have hg := G_pos n d h3
  have hg2 := G_le n d h3
  have hz : (G n d == 0) = false := by simp; omega
  go_enter Tryd.func54, Tryd.ntmps54
  go_wp2_with (go_at_call 70; refine (gcd_impl _ _ _ h1 (by omega) (by omega) (by omega)).mono ?_; rintro e w' ⟨rfl, m, rfl⟩)
  go_quiet (fail)
  go_wp2
  go_ret2
  exact ⟨rfl, _, World.drewN_drewN _ _ _⟩
end Go.Proofs.YtlikfcfblkckaaaDoor
namespace Go.Proofs.YtlikfcfblkckaaaDoor
open Go.RowKit

theorem meth_below (v : Value) (w : World) : (Go.method 282 122 v "loop.example/mortiser/impl.below").run Tryd.prog w = .ok (113, v) w := by kernel_rfl
theorem meth_above (v : Value) (w : World) : (Go.method 282 122 v "loop.example/mortiser/impl.above").run Tryd.prog w = .ok (112, v) w := by kernel_rfl

theorem below_any (n d : Int) (w : World) :
    Calls Tryd.prog 113 #[.agg #[.int .i64 n, .int .i64 d]] w fun e w' => e = .returned (.int .i64 d) ∧ w' = w.alloc (.cells #[.int .i64 n, .int .i64 d] 122) := by
  go_enter Tryd.func113, Tryd.ntmps113
  go_wp2
  go_ret
  exact ⟨rfl, rfl⟩
theorem above_any (n d : Int) (w : World) :
    Calls Tryd.prog 112 #[.agg #[.int .i64 n, .int .i64 d]] w fun e w' => e = .returned (.int .i64 n) ∧ w' = w.alloc (.cells #[.int .i64 n, .int .i64 d] 122) := by
  go_enter Tryd.func112, Tryd.ntmps112
  go_wp2
  go_ret
  exact ⟨rfl, rfl⟩

theorem ratio_out (n d : Int) (w : World) (a : Addr) (hs : Sent a w) (h : inB n d = false) :
    Calls Tryd.prog 28 #[.agg #[.int .i64 n, .int .i64 d]] w fun e w' => e = .returned (.tuple #[.nilIface, .iface 145 (.pointer (some a))]) ∧ Below w.heap.size w w' := by
  go_enter Tryd.func28, Tryd.ntmps28
  go_wp2_with (go_at_call 54; refine (divide_bad _ _ a _ ?_ h).mono ?_; exact hs.below ((Below.refl _ _).alloc (Nat.le_refl _) _); rintro e w' ⟨rfl, m, rfl⟩)
  go_ret2
  exact ⟨rfl, bw_drewN (bw_alloc (bw_refl _) _) _⟩

theorem ratio_yes (n d : Int) (w : World) (h : inB n d = true) (hg : G n d = 1) :
    Calls Tryd.prog 28 #[.agg #[.int .i64 n, .int .i64 d]] w fun e w' => e = .returned (.tuple #[.iface 122 (.agg #[.int .i64 n, .int .i64 d]), .nilIface]) ∧ Below w.heap.size w w' := by
  have mB := meth_below
  have HG : Hid (G n d = 1) := hg
  have e1 : Hid (n / G n d = n) := by rw [hg]; exact Int.ediv_one n
  have e2 : Hid (d / G n d = d) := by rw [hg]; exact Int.ediv_one d
  have hne : (d != d) = false := by simp
  clear hg
  go_enter Tryd.func28, Tryd.ntmps28
  go_wp2_with (go_at_call 54; refine (divide_ok _ _ _ h).mono ?_; rintro e w' ⟨rfl, m, rfl⟩; rw [e1.out, e2.out])
  go_region_with (go_at_call 113; refine (below_any _ _ _).mono ?_; rintro e w' ⟨rfl, rfl⟩)
  all_goals go_wp2
  all_goals go_ret2
  all_goals exact ⟨rfl, by repeat (first | exact bw_refl _ | apply bw_drewN | apply bw_drew | apply bw_alloc)⟩

theorem ratio_no (n d : Int) (a : Addr) (w : World) (hs : Sent a w) (h : inB n d = true) (hg : G n d ≠ 1) :
    Calls Tryd.prog 28 #[.agg #[.int .i64 n, .int .i64 d]] w fun e w' => e = .returned (.tuple #[.nilIface, .iface 145 (.pointer (some a))]) ∧ Below w.heap.size w w' := by
  have mB := meth_below
  have hlt := hs.lt
  have h' := (inB_iff n d).1 h
  have hgp := G_pos n d h'.2.2.1
  have hne : (d / G n d != d) = true := by
    have := mt (div_self_iff d (G n d) h'.2.2.1 hgp).1 hg
    simpa using this
  unfold Sent at hs
  clear hg h' hgp
  go_enter Tryd.func28, Tryd.ntmps28
  go_wp2_with (go_at_call 54; refine (divide_ok _ _ _ h).mono ?_; rintro e w' ⟨rfl, m, rfl⟩)
  go_region_with (go_at_call 113; refine (below_any _ _ _).mono ?_; rintro e w' ⟨rfl, rfl⟩)
  all_goals go_wp2
  all_goals go_quiet (fail)
  all_goals go_wp2
  all_goals go_ret2
  all_goals exact ⟨rfl, by repeat (first | exact bw_refl _ | apply bw_drewN | apply bw_drew | apply bw_alloc)⟩

/-- An ok fraction comes back as it is. -/
theorem ratio_ok (n d : Int) (w : World) (h : okB n d = true) :
    Calls Tryd.prog 28 #[.agg #[.int .i64 n, .int .i64 d]] w fun e w' => e = .returned (.tuple #[.iface 122 (.agg #[.int .i64 n, .int .i64 d]), .nilIface]) ∧ Below w.heap.size w w' := by
  rw [okB_iff] at h
  exact ratio_yes n d w ((inB_iff n d).2 ⟨h.1, h.2.1, h.2.2.1, h.2.2.2.1⟩) h.2.2.2.2
/-- Of any other one there is the error. -/
theorem ratio_bad (n d : Int) (a : Addr) (w : World) (hs : Sent a w) (h : okB n d = false) :
    Calls Tryd.prog 28 #[.agg #[.int .i64 n, .int .i64 d]] w fun e w' => e = .returned (.tuple #[.nilIface, .iface 145 (.pointer (some a))]) ∧ Below w.heap.size w w' := by
  cases hi : inB n d
  · exact ratio_out n d w a hs hi
  · refine ratio_no n d a w hs hi fun hg => ?_
    rw [inB_iff] at hi
    rw [okB_not] at h
    exact h ⟨hi.1, hi.2.1, hi.2.2.1, hi.2.2.2, hg⟩
end Go.Proofs.YtlikfcfblkckaaaDoor
namespace Go.Proofs.YtlikfcfblkckaaaDoor
open Go.RowKit


theorem fracOf_bad (n d : Int) (a : Addr) (w : World) (hs : Sent a w) (h : inB n d = false) :
    Calls Tryd.prog 94 #[.int .i64 n, .int .i64 d] w fun e w' => e = .returned (.tuple #[.agg #[.int .i64 0, .int .i64 0], .bool false]) ∧ Below w.heap.size w w' := by
  have b0 : Below w.heap.size w (w.alloc (.cells #[.int .i64 0, .int .i64 0] 32)) := bw_alloc (bw_refl _) _
  have hlt := hs.lt
  have hc := hs
  unfold Sent at hc
  go_enter Tryd.func94, Tryd.ntmps94
  go_wp2_with (first
    | (go_at_call 54; refine (divide_bad _ _ a _ ?_ h).mono ?_; exact hs.below b0; rintro e w' ⟨rfl, m, rfl⟩)
    | (go_at_call 29; refine (is_same _ _).mono ?_; rintro e w' ⟨rfl, rfl⟩))
  exact bodyPost_ret (v := .tuple #[.agg #[.int .i64 0, .int .i64 0], .bool false]) (by simp [results, Tryd.results94, go_sem]) rfl ⟨rfl, by repeat (first | exact bw_refl _ | apply bw_drewN | apply bw_drew | apply bw_alloc | refine bw_set ?_ (by simp) _)⟩

theorem fracOf_ok (n d : Int) (a : Addr) (w : World) (hs : Sent a w) (h : inB n d = true) :
    Calls Tryd.prog 94 #[.int .i64 n, .int .i64 d] w fun e w' => e = .returned (.tuple #[.agg #[.int .i64 (n / G n d), .int .i64 (d / G n d)], .bool true]) ∧ Below w.heap.size w w' := by
  have mB := meth_below
  have mA := meth_above
  have b0 : Below w.heap.size w (w.alloc (.cells #[.int .i64 0, .int .i64 0] 32)) := bw_alloc (bw_refl _) _
  have hlt := hs.lt
  have hc := hs
  unfold Sent at hc
  go_enter Tryd.func94, Tryd.ntmps94
  go_wp2_with (first
    | (go_at_call 54; refine (divide_ok _ _ _ h).mono ?_; rintro e w' ⟨rfl, m, rfl⟩)
    | (go_at_call 29; refine (is_nil _ _).mono ?_; rintro e w' ⟨rfl, rfl⟩)
    | (go_at_call 112; refine (above_any _ _ _).mono ?_; rintro e w' ⟨rfl, rfl⟩)
    | (go_at_call 113; refine (below_any _ _ _).mono ?_; rintro e w' ⟨rfl, rfl⟩))
  exact bodyPost_ret (v := .tuple #[.agg #[.int .i64 (n / G n d), .int .i64 (d / G n d)], .bool true]) (by simp [results, Tryd.results94, go_sem]) rfl ⟨rfl, by repeat (first | exact bw_refl _ | apply bw_drewN | apply bw_drew | apply bw_alloc | refine bw_set ?_ (by simp) _)⟩

theorem mul_bd (x y : Int) (h1 : 0 ≤ x) (h2 : x ≤ 99999) (h3 : 0 ≤ y) (h4 : y ≤ 99999) : 0 ≤ x * y ∧ x * y ≤ 9999800001 := by
  refine ⟨Int.mul_nonneg h1 h3, ?_⟩
  have := Int.mul_le_mul h2 h4 h3 (by omega)
  omega

theorem cross_any (n d m b : Int) (w : World) (h1 : 0 ≤ n) (h2 : n ≤ 99999) (h3 : 0 ≤ b) (h4 : b ≤ 99999) :
    Calls Tryd.prog 31 #[.iface 122 (.agg #[.int .i64 n, .int .i64 d]), .iface 122 (.agg #[.int .i64 m, .int .i64 b])] w fun e w' => e = .returned (.int .i64 (n * b)) ∧ Below w.heap.size w w' := by
  have mB := meth_below
  have mA := meth_above
  obtain ⟨k1, k2⟩ := mul_bd n b h1 h2 h3 h4
  go_enter Tryd.func31, Tryd.ntmps31
  go_wp2_with (first
    | (go_at_call 112; refine (above_any _ _ _).mono ?_; rintro e w' ⟨rfl, rfl⟩)
    | (go_at_call 113; refine (below_any _ _ _).mono ?_; rintro e w' ⟨rfl, rfl⟩))
  go_ret
  exact ⟨rfl, by repeat (first | exact bw_refl _ | apply bw_drewN | apply bw_drew | apply bw_alloc | refine bw_set ?_ (by simp) _)⟩

theorem compare_any (x y : Int) (w : World) :
    Calls Tryd.prog 30 #[.int .i64 x, .int .i64 y] w fun e w' => e = .returned (.int .i64 (cmpI x y)) ∧ Below w.heap.size w w' := by
  have hc : x < y ∨ (¬ x < y ∧ y < x) ∨ (¬ x < y ∧ ¬ y < x) := by omega
  rcases hc with h1 | ⟨h1, h2⟩ | ⟨h1, h2⟩
  · have e : Hid (cmpI x y = -1) := by unfold cmpI; rw [if_pos h1]; rfl
    go_enter Tryd.func30, Tryd.ntmps30
    go_wp2
    go_ret
    exact ⟨ret_int e.out.symm, bw_refl _⟩
  · have e : Hid (cmpI x y = 1) := by unfold cmpI; rw [if_neg h1, if_pos h2]; rfl
    go_enter Tryd.func30, Tryd.ntmps30
    go_wp2
    go_ret
    exact ⟨ret_int e.out.symm, bw_refl _⟩
  · have e : Hid (cmpI x y = 0) := by unfold cmpI; rw [if_neg h1, if_neg h2]; rfl
    go_enter Tryd.func30, Tryd.ntmps30
    go_wp2
    go_ret
    exact ⟨ret_int e.out.symm, bw_refl _⟩

/-- What FracCmp answers. -/
def cmpV (n d m b : Int) : Int := if okB n d && okB m b then cmpI (n * b) (m * d) else 2

theorem fracCmp_left (n d m b : Int) (a : Addr) (w : World) (hs : Sent a w) (h : okB n d = false) :
    Calls Tryd.prog 10 #[.agg #[.int .i64 n, .int .i64 d], .agg #[.int .i64 m, .int .i64 b]] w fun e w' => e = .returned (.int .i64 2) ∧ Below w.heap.size w w' := by
  have b0 : Below w.heap.size w ((w.alloc (.cells #[.int .i64 n, .int .i64 d] 32)).alloc (.cells #[.int .i64 m, .int .i64 b] 32)) := bw_alloc (bw_alloc (bw_refl _) _) _
  go_enter Tryd.func10, Tryd.ntmps10
  go_wp2_with (first
    | (go_at_call 28; refine (ratio_bad _ _ a _ ?_ h).mono ?_; exact hs.below b0; rintro e w' ⟨rfl, hb⟩; have hs1 := hs.below (bw_trans b0 hb); unfold Sent at hs1)
    | (go_at_call 29; refine (is_same _ _).mono ?_; rintro e w' ⟨rfl, rfl⟩))
  go_ret
  exact ⟨rfl, bw_trans b0 hb⟩
end Go.Proofs.YtlikfcfblkckaaaDoor
namespace Go.Proofs.YtlikfcfblkckaaaDoor
open Go.RowKit

theorem fracCmp_right (n d m b : Int) (a : Addr) (w : World) (hs : Sent a w) (h : okB n d = true) (h2 : okB m b = false) :
    Calls Tryd.prog 10 #[.agg #[.int .i64 n, .int .i64 d], .agg #[.int .i64 m, .int .i64 b]] w fun e w' => e = .returned (.int .i64 2) ∧ Below w.heap.size w w' := by
  have b0 : Below w.heap.size w ((w.alloc (.cells #[.int .i64 n, .int .i64 d] 32)).alloc (.cells #[.int .i64 m, .int .i64 b] 32)) := bw_alloc (bw_alloc (bw_refl _) _) _
  go_enter Tryd.func10, Tryd.ntmps10
  go_wp2_with fail
  refine (ratio_ok _ _ _ h).mono ?_
  rintro e w1 ⟨rfl, hb⟩
  have hs1 := hs.below (bw_trans b0 hb)
  obtain ⟨hc1, hf1⟩ := bcell hb
  have HB : Hid (Below w.heap.size w w1) := bw_trans b0 hb
  have hs2 := hs1
  unfold Sent at hs1
  go_wp2_with (go_at_call 29; refine (is_nil _ _).mono ?_; rintro e w' ⟨rfl, rfl⟩)
  refine (ratio_bad _ _ a _ hs2 h2).mono ?_
  rintro e w2 ⟨rfl, hb2⟩
  have hs3 := hs2.below hb2
  unfold Sent at hs3
  go_wp2_with (go_at_call 29; refine (is_same _ _).mono ?_; rintro e w' ⟨rfl, rfl⟩)
  go_ret
  exact ⟨rfl, bw_trans HB.out hb2⟩

theorem fracCmp_both (n d m b : Int) (a : Addr) (w : World) (hs : Sent a w) (h : okB n d = true) (h2 : okB m b = true) :
    Calls Tryd.prog 10 #[.agg #[.int .i64 n, .int .i64 d], .agg #[.int .i64 m, .int .i64 b]] w fun e w' => e = .returned (.int .i64 (cmpI (n * b) (m * d))) ∧ Below w.heap.size w w' := by
  have b0 : Below w.heap.size w ((w.alloc (.cells #[.int .i64 n, .int .i64 d] 32)).alloc (.cells #[.int .i64 m, .int .i64 b] 32)) := bw_alloc (bw_alloc (bw_refl _) _) _
  have k1 := (okB_iff n d).1 h
  have k2 := (okB_iff m b).1 h2
  go_enter Tryd.func10, Tryd.ntmps10
  go_wp2_with fail
  refine (ratio_ok _ _ _ h).mono ?_
  rintro e w1 ⟨rfl, hb⟩
  have hs1 := hs.below (bw_trans b0 hb)
  obtain ⟨hc1, hf1⟩ := bcell hb
  have HB : Hid (Below w.heap.size w w1) := bw_trans b0 hb
  have hs2 := hs1
  unfold Sent at hs1
  go_wp2_with (go_at_call 29; refine (is_nil _ _).mono ?_; rintro e w' ⟨rfl, rfl⟩)
  refine (ratio_ok _ _ _ h2).mono ?_
  rintro e w2 ⟨rfl, hb2⟩
  have hs3 := hs2.below hb2
  unfold Sent at hs3
  have HB2 : Hid (Below w.heap.size w w2) := bw_trans HB.out hb2
  clear hb hb2 hc1 hf1 hs1 HB
  go_wp2_with (go_at_call 29; refine (is_nil _ _).mono ?_; rintro e w' ⟨rfl, rfl⟩)
  refine (cross_any n d m b _ k1.1 k1.2.1 (by omega) k2.2.2.2.1).mono ?_
  rintro e w3 ⟨rfl, hb3⟩
  go_wp2_with fail
  refine (cross_any m b n d _ k2.1 k2.2.1 (by omega) k1.2.2.2.1).mono ?_
  rintro e w4 ⟨rfl, hb4⟩
  go_wp2_with fail
  refine (compare_any _ _ _).mono ?_
  rintro e w5 ⟨rfl, hb5⟩
  go_wp2_with fail
  go_ret
  exact ⟨rfl, bw_trans (bw_trans (bw_trans HB2.out hb3) hb4) hb5⟩

/-- FracCmp at every two fractions. -/
theorem fracCmp_any (n d m b : Int) (a : Addr) (w : World) (hs : Sent a w) :
    Calls Tryd.prog 10 #[.agg #[.int .i64 n, .int .i64 d], .agg #[.int .i64 m, .int .i64 b]] w fun e w' => e = .returned (.int .i64 (cmpV n d m b)) ∧ Below w.heap.size w w' := by
  unfold cmpV
  cases h : okB n d
  · exact fracCmp_left n d m b a w hs h
  · cases h2 : okB m b
    · exact fracCmp_right n d m b a w hs h h2
    · exact fracCmp_both n d m b a w hs h h2
/-- FracOf at every two numbers. -/
theorem fracOf_any (n d : Int) (a : Addr) (w : World) (hs : Sent a w) :
    Calls Tryd.prog 94 #[.int .i64 n, .int .i64 d] w fun e w' => e = .returned (.tuple #[.agg #[.int .i64 (ofN n d), .int .i64 (ofD n d)], .bool (inB n d)]) ∧ Below w.heap.size w w' := by
  unfold ofN ofD
  cases h : inB n d
  · exact fracOf_bad n d a w hs h
  · exact fracOf_ok n d a w hs h
end Go.Proofs.YtlikfcfblkckaaaDoor
namespace Go.Proofs.YtlikfcfblkckaaaDoor
open Go.RowKit Go.Sort

theorem cellB {W w : World} {a : Addr} {v : Value} (J : Below W.heap.size W w) (h : W.cell? a = some v) : w.cell? a = some v := by
  rw [J.cell (World.block_lt_of_cell? _ _ h)]; exact h
theorem cellS2 {W : World} {p m n : Nat} {x y v : Value} {a : Addr} (h : W.cell? a = some v) (hb : a.block ≠ p) : ((W.setCell ⟨p, m, none⟩ x).setCell ⟨p, n, none⟩ y).cell? a = some v := by
  rw [← h]
  refine World.cell?_of_block (w := W) ?_
  rw [Below.heap_setCell _ _ _ _ (by show a.block ≠ p; exact hb), Below.heap_setCell _ _ _ _ (by show a.block ≠ p; exact hb)]
theorem setF2 {w : World} {b : Nat} {x0 x1 u0 u1 : Value} {t : TypeId} (h : w.heap[b]? = some (.cells #[x0, x1] t (0, 0))) : ((w.setCell ⟨b, 0, none⟩ u0).setCell ⟨b, 1, none⟩ u1).heap[b]? = some (.cells #[u0, u1] t (0, 0)) := by
  simp [World.setCell, Array.getElem?_modify, h]
theorem cB4 {W w : World} {a0 a1 a2 a3 : Addr} {v0 v1 v2 v3 : Value} (J : Below W.heap.size W w) (h : W.cell? a0 = some v0 ∧ W.cell? a1 = some v1 ∧ W.cell? a2 = some v2 ∧ W.cell? a3 = some v3) : w.cell? a0 = some v0 ∧ w.cell? a1 = some v1 ∧ w.cell? a2 = some v2 ∧ w.cell? a3 = some v3 :=
  ⟨cellB J h.1, cellB J h.2.1, cellB J h.2.2.1, cellB J h.2.2.2⟩
theorem cA4 {W : World} {o : Obj} {a0 a1 a2 a3 : Addr} {v0 v1 v2 v3 : Value} (h : W.cell? a0 = some v0 ∧ W.cell? a1 = some v1 ∧ W.cell? a2 = some v2 ∧ W.cell? a3 = some v3) : (W.alloc o).cell? a0 = some v0 ∧ (W.alloc o).cell? a1 = some v1 ∧ (W.alloc o).cell? a2 = some v2 ∧ (W.alloc o).cell? a3 = some v3 := cB4 (bw_alloc (bw_refl _) _) h
theorem cS4 {W : World} {p m n : Nat} {x y : Value} {a0 a1 a2 a3 : Addr} {v0 v1 v2 v3 : Value} (h : W.cell? a0 = some v0 ∧ W.cell? a1 = some v1 ∧ W.cell? a2 = some v2 ∧ W.cell? a3 = some v3) (n0 : a0.block ≠ p) (n1 : a1.block ≠ p) (n2 : a2.block ≠ p) (n3 : a3.block ≠ p) : ((W.setCell ⟨p, m, none⟩ x).setCell ⟨p, n, none⟩ y).cell? a0 = some v0 ∧ ((W.setCell ⟨p, m, none⟩ x).setCell ⟨p, n, none⟩ y).cell? a1 = some v1 ∧ ((W.setCell ⟨p, m, none⟩ x).setCell ⟨p, n, none⟩ y).cell? a2 = some v2 ∧ ((W.setCell ⟨p, m, none⟩ x).setCell ⟨p, n, none⟩ y).cell? a3 = some v3 :=
  ⟨cellS2 h.1 n0, cellS2 h.2.1 n1, cellS2 h.2.2.1 n2, cellS2 h.2.2.2 n3⟩
theorem cT4 {W : World} {p m n k l : Nat} {x y z u : Value} {a0 a1 a2 a3 : Addr} {v0 v1 v2 v3 : Value} (h : W.cell? a0 = some v0 ∧ W.cell? a1 = some v1 ∧ W.cell? a2 = some v2 ∧ W.cell? a3 = some v3) (n0 : a0.block ≠ p) (n1 : a1.block ≠ p) (n2 : a2.block ≠ p) (n3 : a3.block ≠ p) : ((((W.setCell ⟨p, m, none⟩ x).setCell ⟨p, n, none⟩ y).setCell ⟨p, k, none⟩ z).setCell ⟨p, l, none⟩ u).cell? a0 = some v0 ∧ ((((W.setCell ⟨p, m, none⟩ x).setCell ⟨p, n, none⟩ y).setCell ⟨p, k, none⟩ z).setCell ⟨p, l, none⟩ u).cell? a1 = some v1 ∧ ((((W.setCell ⟨p, m, none⟩ x).setCell ⟨p, n, none⟩ y).setCell ⟨p, k, none⟩ z).setCell ⟨p, l, none⟩ u).cell? a2 = some v2 ∧ ((((W.setCell ⟨p, m, none⟩ x).setCell ⟨p, n, none⟩ y).setCell ⟨p, k, none⟩ z).setCell ⟨p, l, none⟩ u).cell? a3 = some v3 := cS4 (cS4 h n0 n1 n2 n3) n0 n1 n2 n3
theorem cB8 {W w : World} {a0 a1 a2 a3 a4 a5 a6 a7 : Addr} {v0 v1 v2 v3 v4 v5 v6 v7 : Value} (J : Below W.heap.size W w) (h : W.cell? a0 = some v0 ∧ W.cell? a1 = some v1 ∧ W.cell? a2 = some v2 ∧ W.cell? a3 = some v3 ∧ W.cell? a4 = some v4 ∧ W.cell? a5 = some v5 ∧ W.cell? a6 = some v6 ∧ W.cell? a7 = some v7) : w.cell? a0 = some v0 ∧ w.cell? a1 = some v1 ∧ w.cell? a2 = some v2 ∧ w.cell? a3 = some v3 ∧ w.cell? a4 = some v4 ∧ w.cell? a5 = some v5 ∧ w.cell? a6 = some v6 ∧ w.cell? a7 = some v7 :=
  ⟨cellB J h.1, cellB J h.2.1, cellB J h.2.2.1, cellB J h.2.2.2.1, cellB J h.2.2.2.2.1, cellB J h.2.2.2.2.2.1, cellB J h.2.2.2.2.2.2.1, cellB J h.2.2.2.2.2.2.2⟩
theorem cA8 {W : World} {o : Obj} {a0 a1 a2 a3 a4 a5 a6 a7 : Addr} {v0 v1 v2 v3 v4 v5 v6 v7 : Value} (h : W.cell? a0 = some v0 ∧ W.cell? a1 = some v1 ∧ W.cell? a2 = some v2 ∧ W.cell? a3 = some v3 ∧ W.cell? a4 = some v4 ∧ W.cell? a5 = some v5 ∧ W.cell? a6 = some v6 ∧ W.cell? a7 = some v7) : (W.alloc o).cell? a0 = some v0 ∧ (W.alloc o).cell? a1 = some v1 ∧ (W.alloc o).cell? a2 = some v2 ∧ (W.alloc o).cell? a3 = some v3 ∧ (W.alloc o).cell? a4 = some v4 ∧ (W.alloc o).cell? a5 = some v5 ∧ (W.alloc o).cell? a6 = some v6 ∧ (W.alloc o).cell? a7 = some v7 := cB8 (bw_alloc (bw_refl _) _) h
theorem cS8 {W : World} {p m n : Nat} {x y : Value} {a0 a1 a2 a3 a4 a5 a6 a7 : Addr} {v0 v1 v2 v3 v4 v5 v6 v7 : Value} (h : W.cell? a0 = some v0 ∧ W.cell? a1 = some v1 ∧ W.cell? a2 = some v2 ∧ W.cell? a3 = some v3 ∧ W.cell? a4 = some v4 ∧ W.cell? a5 = some v5 ∧ W.cell? a6 = some v6 ∧ W.cell? a7 = some v7) (n0 : a0.block ≠ p) (n1 : a1.block ≠ p) (n2 : a2.block ≠ p) (n3 : a3.block ≠ p) (n4 : a4.block ≠ p) (n5 : a5.block ≠ p) (n6 : a6.block ≠ p) (n7 : a7.block ≠ p) : ((W.setCell ⟨p, m, none⟩ x).setCell ⟨p, n, none⟩ y).cell? a0 = some v0 ∧ ((W.setCell ⟨p, m, none⟩ x).setCell ⟨p, n, none⟩ y).cell? a1 = some v1 ∧ ((W.setCell ⟨p, m, none⟩ x).setCell ⟨p, n, none⟩ y).cell? a2 = some v2 ∧ ((W.setCell ⟨p, m, none⟩ x).setCell ⟨p, n, none⟩ y).cell? a3 = some v3 ∧ ((W.setCell ⟨p, m, none⟩ x).setCell ⟨p, n, none⟩ y).cell? a4 = some v4 ∧ ((W.setCell ⟨p, m, none⟩ x).setCell ⟨p, n, none⟩ y).cell? a5 = some v5 ∧ ((W.setCell ⟨p, m, none⟩ x).setCell ⟨p, n, none⟩ y).cell? a6 = some v6 ∧ ((W.setCell ⟨p, m, none⟩ x).setCell ⟨p, n, none⟩ y).cell? a7 = some v7 :=
  ⟨cellS2 h.1 n0, cellS2 h.2.1 n1, cellS2 h.2.2.1 n2, cellS2 h.2.2.2.1 n3, cellS2 h.2.2.2.2.1 n4, cellS2 h.2.2.2.2.2.1 n5, cellS2 h.2.2.2.2.2.2.1 n6, cellS2 h.2.2.2.2.2.2.2 n7⟩
theorem cT8 {W : World} {p m n k l : Nat} {x y z u : Value} {a0 a1 a2 a3 a4 a5 a6 a7 : Addr} {v0 v1 v2 v3 v4 v5 v6 v7 : Value} (h : W.cell? a0 = some v0 ∧ W.cell? a1 = some v1 ∧ W.cell? a2 = some v2 ∧ W.cell? a3 = some v3 ∧ W.cell? a4 = some v4 ∧ W.cell? a5 = some v5 ∧ W.cell? a6 = some v6 ∧ W.cell? a7 = some v7) (n0 : a0.block ≠ p) (n1 : a1.block ≠ p) (n2 : a2.block ≠ p) (n3 : a3.block ≠ p) (n4 : a4.block ≠ p) (n5 : a5.block ≠ p) (n6 : a6.block ≠ p) (n7 : a7.block ≠ p) : ((((W.setCell ⟨p, m, none⟩ x).setCell ⟨p, n, none⟩ y).setCell ⟨p, k, none⟩ z).setCell ⟨p, l, none⟩ u).cell? a0 = some v0 ∧ ((((W.setCell ⟨p, m, none⟩ x).setCell ⟨p, n, none⟩ y).setCell ⟨p, k, none⟩ z).setCell ⟨p, l, none⟩ u).cell? a1 = some v1 ∧ ((((W.setCell ⟨p, m, none⟩ x).setCell ⟨p, n, none⟩ y).setCell ⟨p, k, none⟩ z).setCell ⟨p, l, none⟩ u).cell? a2 = some v2 ∧ ((((W.setCell ⟨p, m, none⟩ x).setCell ⟨p, n, none⟩ y).setCell ⟨p, k, none⟩ z).setCell ⟨p, l, none⟩ u).cell? a3 = some v3 ∧ ((((W.setCell ⟨p, m, none⟩ x).setCell ⟨p, n, none⟩ y).setCell ⟨p, k, none⟩ z).setCell ⟨p, l, none⟩ u).cell? a4 = some v4 ∧ ((((W.setCell ⟨p, m, none⟩ x).setCell ⟨p, n, none⟩ y).setCell ⟨p, k, none⟩ z).setCell ⟨p, l, none⟩ u).cell? a5 = some v5 ∧ ((((W.setCell ⟨p, m, none⟩ x).setCell ⟨p, n, none⟩ y).setCell ⟨p, k, none⟩ z).setCell ⟨p, l, none⟩ u).cell? a6 = some v6 ∧ ((((W.setCell ⟨p, m, none⟩ x).setCell ⟨p, n, none⟩ y).setCell ⟨p, k, none⟩ z).setCell ⟨p, l, none⟩ u).cell? a7 = some v7 := cS8 (cS8 h n0 n1 n2 n3 n4 n5 n6 n7) n0 n1 n2 n3 n4 n5 n6 n7
theorem cB9 {W w : World} {a0 a1 a2 a3 a4 a5 a6 a7 a8 : Addr} {v0 v1 v2 v3 v4 v5 v6 v7 v8 : Value} (J : Below W.heap.size W w) (h : W.cell? a0 = some v0 ∧ W.cell? a1 = some v1 ∧ W.cell? a2 = some v2 ∧ W.cell? a3 = some v3 ∧ W.cell? a4 = some v4 ∧ W.cell? a5 = some v5 ∧ W.cell? a6 = some v6 ∧ W.cell? a7 = some v7 ∧ W.cell? a8 = some v8) : w.cell? a0 = some v0 ∧ w.cell? a1 = some v1 ∧ w.cell? a2 = some v2 ∧ w.cell? a3 = some v3 ∧ w.cell? a4 = some v4 ∧ w.cell? a5 = some v5 ∧ w.cell? a6 = some v6 ∧ w.cell? a7 = some v7 ∧ w.cell? a8 = some v8 :=
  ⟨cellB J h.1, cellB J h.2.1, cellB J h.2.2.1, cellB J h.2.2.2.1, cellB J h.2.2.2.2.1, cellB J h.2.2.2.2.2.1, cellB J h.2.2.2.2.2.2.1, cellB J h.2.2.2.2.2.2.2.1, cellB J h.2.2.2.2.2.2.2.2⟩
theorem cA9 {W : World} {o : Obj} {a0 a1 a2 a3 a4 a5 a6 a7 a8 : Addr} {v0 v1 v2 v3 v4 v5 v6 v7 v8 : Value} (h : W.cell? a0 = some v0 ∧ W.cell? a1 = some v1 ∧ W.cell? a2 = some v2 ∧ W.cell? a3 = some v3 ∧ W.cell? a4 = some v4 ∧ W.cell? a5 = some v5 ∧ W.cell? a6 = some v6 ∧ W.cell? a7 = some v7 ∧ W.cell? a8 = some v8) : (W.alloc o).cell? a0 = some v0 ∧ (W.alloc o).cell? a1 = some v1 ∧ (W.alloc o).cell? a2 = some v2 ∧ (W.alloc o).cell? a3 = some v3 ∧ (W.alloc o).cell? a4 = some v4 ∧ (W.alloc o).cell? a5 = some v5 ∧ (W.alloc o).cell? a6 = some v6 ∧ (W.alloc o).cell? a7 = some v7 ∧ (W.alloc o).cell? a8 = some v8 := cB9 (bw_alloc (bw_refl _) _) h
theorem cS9 {W : World} {p m n : Nat} {x y : Value} {a0 a1 a2 a3 a4 a5 a6 a7 a8 : Addr} {v0 v1 v2 v3 v4 v5 v6 v7 v8 : Value} (h : W.cell? a0 = some v0 ∧ W.cell? a1 = some v1 ∧ W.cell? a2 = some v2 ∧ W.cell? a3 = some v3 ∧ W.cell? a4 = some v4 ∧ W.cell? a5 = some v5 ∧ W.cell? a6 = some v6 ∧ W.cell? a7 = some v7 ∧ W.cell? a8 = some v8) (n0 : a0.block ≠ p) (n1 : a1.block ≠ p) (n2 : a2.block ≠ p) (n3 : a3.block ≠ p) (n4 : a4.block ≠ p) (n5 : a5.block ≠ p) (n6 : a6.block ≠ p) (n7 : a7.block ≠ p) (n8 : a8.block ≠ p) : ((W.setCell ⟨p, m, none⟩ x).setCell ⟨p, n, none⟩ y).cell? a0 = some v0 ∧ ((W.setCell ⟨p, m, none⟩ x).setCell ⟨p, n, none⟩ y).cell? a1 = some v1 ∧ ((W.setCell ⟨p, m, none⟩ x).setCell ⟨p, n, none⟩ y).cell? a2 = some v2 ∧ ((W.setCell ⟨p, m, none⟩ x).setCell ⟨p, n, none⟩ y).cell? a3 = some v3 ∧ ((W.setCell ⟨p, m, none⟩ x).setCell ⟨p, n, none⟩ y).cell? a4 = some v4 ∧ ((W.setCell ⟨p, m, none⟩ x).setCell ⟨p, n, none⟩ y).cell? a5 = some v5 ∧ ((W.setCell ⟨p, m, none⟩ x).setCell ⟨p, n, none⟩ y).cell? a6 = some v6 ∧ ((W.setCell ⟨p, m, none⟩ x).setCell ⟨p, n, none⟩ y).cell? a7 = some v7 ∧ ((W.setCell ⟨p, m, none⟩ x).setCell ⟨p, n, none⟩ y).cell? a8 = some v8 :=
  ⟨cellS2 h.1 n0, cellS2 h.2.1 n1, cellS2 h.2.2.1 n2, cellS2 h.2.2.2.1 n3, cellS2 h.2.2.2.2.1 n4, cellS2 h.2.2.2.2.2.1 n5, cellS2 h.2.2.2.2.2.2.1 n6, cellS2 h.2.2.2.2.2.2.2.1 n7, cellS2 h.2.2.2.2.2.2.2.2 n8⟩
theorem cT9 {W : World} {p m n k l : Nat} {x y z u : Value} {a0 a1 a2 a3 a4 a5 a6 a7 a8 : Addr} {v0 v1 v2 v3 v4 v5 v6 v7 v8 : Value} (h : W.cell? a0 = some v0 ∧ W.cell? a1 = some v1 ∧ W.cell? a2 = some v2 ∧ W.cell? a3 = some v3 ∧ W.cell? a4 = some v4 ∧ W.cell? a5 = some v5 ∧ W.cell? a6 = some v6 ∧ W.cell? a7 = some v7 ∧ W.cell? a8 = some v8) (n0 : a0.block ≠ p) (n1 : a1.block ≠ p) (n2 : a2.block ≠ p) (n3 : a3.block ≠ p) (n4 : a4.block ≠ p) (n5 : a5.block ≠ p) (n6 : a6.block ≠ p) (n7 : a7.block ≠ p) (n8 : a8.block ≠ p) : ((((W.setCell ⟨p, m, none⟩ x).setCell ⟨p, n, none⟩ y).setCell ⟨p, k, none⟩ z).setCell ⟨p, l, none⟩ u).cell? a0 = some v0 ∧ ((((W.setCell ⟨p, m, none⟩ x).setCell ⟨p, n, none⟩ y).setCell ⟨p, k, none⟩ z).setCell ⟨p, l, none⟩ u).cell? a1 = some v1 ∧ ((((W.setCell ⟨p, m, none⟩ x).setCell ⟨p, n, none⟩ y).setCell ⟨p, k, none⟩ z).setCell ⟨p, l, none⟩ u).cell? a2 = some v2 ∧ ((((W.setCell ⟨p, m, none⟩ x).setCell ⟨p, n, none⟩ y).setCell ⟨p, k, none⟩ z).setCell ⟨p, l, none⟩ u).cell? a3 = some v3 ∧ ((((W.setCell ⟨p, m, none⟩ x).setCell ⟨p, n, none⟩ y).setCell ⟨p, k, none⟩ z).setCell ⟨p, l, none⟩ u).cell? a4 = some v4 ∧ ((((W.setCell ⟨p, m, none⟩ x).setCell ⟨p, n, none⟩ y).setCell ⟨p, k, none⟩ z).setCell ⟨p, l, none⟩ u).cell? a5 = some v5 ∧ ((((W.setCell ⟨p, m, none⟩ x).setCell ⟨p, n, none⟩ y).setCell ⟨p, k, none⟩ z).setCell ⟨p, l, none⟩ u).cell? a6 = some v6 ∧ ((((W.setCell ⟨p, m, none⟩ x).setCell ⟨p, n, none⟩ y).setCell ⟨p, k, none⟩ z).setCell ⟨p, l, none⟩ u).cell? a7 = some v7 ∧ ((((W.setCell ⟨p, m, none⟩ x).setCell ⟨p, n, none⟩ y).setCell ⟨p, k, none⟩ z).setCell ⟨p, l, none⟩ u).cell? a8 = some v8 := cS9 (cS9 h n0 n1 n2 n3 n4 n5 n6 n7 n8) n0 n1 n2 n3 n4 n5 n6 n7 n8
theorem cB6 {W w : World} {a0 a1 a2 a3 a4 a5 : Addr} {v0 v1 v2 v3 v4 v5 : Value} (J : Below W.heap.size W w) (h : W.cell? a0 = some v0 ∧ W.cell? a1 = some v1 ∧ W.cell? a2 = some v2 ∧ W.cell? a3 = some v3 ∧ W.cell? a4 = some v4 ∧ W.cell? a5 = some v5) : w.cell? a0 = some v0 ∧ w.cell? a1 = some v1 ∧ w.cell? a2 = some v2 ∧ w.cell? a3 = some v3 ∧ w.cell? a4 = some v4 ∧ w.cell? a5 = some v5 :=
  ⟨cellB J h.1, cellB J h.2.1, cellB J h.2.2.1, cellB J h.2.2.2.1, cellB J h.2.2.2.2.1, cellB J h.2.2.2.2.2⟩
theorem cA6 {W : World} {o : Obj} {a0 a1 a2 a3 a4 a5 : Addr} {v0 v1 v2 v3 v4 v5 : Value} (h : W.cell? a0 = some v0 ∧ W.cell? a1 = some v1 ∧ W.cell? a2 = some v2 ∧ W.cell? a3 = some v3 ∧ W.cell? a4 = some v4 ∧ W.cell? a5 = some v5) : (W.alloc o).cell? a0 = some v0 ∧ (W.alloc o).cell? a1 = some v1 ∧ (W.alloc o).cell? a2 = some v2 ∧ (W.alloc o).cell? a3 = some v3 ∧ (W.alloc o).cell? a4 = some v4 ∧ (W.alloc o).cell? a5 = some v5 := cB6 (bw_alloc (bw_refl _) _) h
theorem cS6 {W : World} {p m n : Nat} {x y : Value} {a0 a1 a2 a3 a4 a5 : Addr} {v0 v1 v2 v3 v4 v5 : Value} (h : W.cell? a0 = some v0 ∧ W.cell? a1 = some v1 ∧ W.cell? a2 = some v2 ∧ W.cell? a3 = some v3 ∧ W.cell? a4 = some v4 ∧ W.cell? a5 = some v5) (n0 : a0.block ≠ p) (n1 : a1.block ≠ p) (n2 : a2.block ≠ p) (n3 : a3.block ≠ p) (n4 : a4.block ≠ p) (n5 : a5.block ≠ p) : ((W.setCell ⟨p, m, none⟩ x).setCell ⟨p, n, none⟩ y).cell? a0 = some v0 ∧ ((W.setCell ⟨p, m, none⟩ x).setCell ⟨p, n, none⟩ y).cell? a1 = some v1 ∧ ((W.setCell ⟨p, m, none⟩ x).setCell ⟨p, n, none⟩ y).cell? a2 = some v2 ∧ ((W.setCell ⟨p, m, none⟩ x).setCell ⟨p, n, none⟩ y).cell? a3 = some v3 ∧ ((W.setCell ⟨p, m, none⟩ x).setCell ⟨p, n, none⟩ y).cell? a4 = some v4 ∧ ((W.setCell ⟨p, m, none⟩ x).setCell ⟨p, n, none⟩ y).cell? a5 = some v5 :=
  ⟨cellS2 h.1 n0, cellS2 h.2.1 n1, cellS2 h.2.2.1 n2, cellS2 h.2.2.2.1 n3, cellS2 h.2.2.2.2.1 n4, cellS2 h.2.2.2.2.2 n5⟩
end Go.Proofs.YtlikfcfblkckaaaDoor
namespace Go.Proofs.YtlikfcfblkckaaaDoor
open Go.RowKit Go.Sort

theorem square_ok (ax ay bx b_y : Int) (w : World) (ha : ptB ax ay = true) (hb : ptB bx b_y = true) :
    Calls Tryd.prog 88 #[.agg #[.int .i64 ax, .int .i64 ay], .agg #[.int .i64 bx, .int .i64 b_y]] w fun e w' => e = .returned (.int .i64 (dt ax ay bx b_y bx b_y)) ∧ Below w.heap.size w w' := by
  go_enter Tryd.func88, Tryd.ntmps88
  go_wp2_with fail
  refine (along_any _ _ _ _ _ _ _ ha hb hb).mono ?_
  rintro e w1 ⟨rfl, J⟩
  obtain ⟨hc, hf⟩ := bcell J
  go_wp2_with fail
  go_ret
  exact ⟨rfl, bw_trans (by repeat (first | exact bw_refl _ | assumption | apply bw_drewN | apply bw_drew | apply bw_alloc | refine bw_set ?_ (by simp) _)) J⟩
theorem grid_any (n d : Int) (ad : Addr) (w : World) (hs : Sent ad w) :
    Calls Tryd.prog 87 #[.int .i64 n, .int .i64 d] w fun e w' => e = .returned (.agg #[.int .i64 (ofN n d), .int .i64 (ofD n d)]) ∧ Below w.heap.size w w' := by
  have b0 : Below w.heap.size w (w.alloc (.cells #[.int .i64 0, .int .i64 0] 32)) := bw_alloc (bw_refl _) _
  go_enter Tryd.func87, Tryd.ntmps87
  go_wp2_with fail
  refine (fracOf_any _ _ ad _ (hs.below b0)).mono ?_
  rintro e w1 ⟨rfl, J⟩
  obtain ⟨hc, hf⟩ := bcell J
  have HB : Hid (Below w.heap.size w w1) := bw_trans (by repeat (first | exact bw_refl _ | assumption | apply bw_drewN | apply bw_drew | apply bw_alloc | refine bw_set ?_ (by simp) _)) J
  have F := keep J (heap_new _ _)
  have hz' := blk_lt F
  have F2 : (((w1.setCell ⟨w.heap.size, 0, none⟩ (.int .i64 (ofN n d))).setCell ⟨w.heap.size, 1, none⟩ (.int .i64 (ofD n d))).alloc (.cells #[.int .i64 (ofN n d), .int .i64 (ofD n d)] 32)).heap[w.heap.size]? = some (.cells #[.int .i64 (ofN n d), .int .i64 (ofD n d)] 32 (0, 0)) := (heap_old _ _ (by simpa [World.setCell] using hz')).trans (setF2 F)
  obtain ⟨r0, r1⟩ := blk_2 F2
  clear J F F2
  go_wp2_with fail
  exact bodyPost_ret (v := .agg #[.int .i64 (ofN n d), .int .i64 (ofD n d)]) (by simp [results, Tryd.results87, go_sem, r0, r1]) rfl ⟨rfl, by repeat (first | with_reducible exact HB.out | with_reducible refine bw_alloc ?_ _ | with_reducible refine bw_set ?_ (by dsimp only; omega) _)⟩
theorem of_one (n : Int) (h : 0 ≤ n) (h2 : n ≤ 99999) : ofN n 1 = n ∧ ofD n 1 = 1 := by
  have hi : inB n 1 = true := (inB_iff n 1).2 ⟨h, h2, by omega, by omega⟩
  unfold ofN ofD
  rw [hi, G_one]
  exact ⟨by simp, by simp⟩
theorem grid_one (n : Int) (h : 0 ≤ n) (h2 : n ≤ 99999) (ad : Addr) (w : World) (hs : Sent ad w) :
    Calls Tryd.prog 87 #[.int .i64 n, .int .i64 1] w fun e w' => e = .returned (.agg #[.int .i64 n, .int .i64 1]) ∧ Below w.heap.size w w' := by
  obtain ⟨e1, e2⟩ := of_one n h h2
  have := grid_any n 1 ad w hs
  rwa [e1, e2] at this
set_option maxHeartbeats 400000 in
theorem farFirst_ok (ax ay bx b_y px py : Int) (ad : Addr) (w : World) (h0 : Sent ad w) (gs : sgB ax ay bx b_y = true) (gp : ptB px py = true) :
    Calls Tryd.prog 77 #[.agg #[.int .i64 ax, .int .i64 ay, .int .i64 bx, .int .i64 b_y], .agg #[.int .i64 px, .int .i64 py]] w fun e w' => e = .returned (.agg #[.int .i64 (dt ax ay px py px py), .int .i64 1]) ∧ Below w.heap.size w w' := by
  obtain ⟨ha, hb, _⟩ := sg_parts gs
  have d1 := dt_self_nonneg ax ay px py
  have d2 := dt_bd ha gp gp
  have b0 : Below w.heap.size w (((w.alloc (.cells #[.int .i64 ax, .int .i64 ay, .int .i64 bx, .int .i64 b_y] 98)).alloc (.cells #[.int .i64 px, .int .i64 py] 28)).alloc (.cells #[.int .i64 0, .int .i64 0] 32)) := (by repeat (first | exact bw_refl _ | assumption | apply bw_drewN | apply bw_drew | apply bw_alloc | refine bw_set ?_ (by simp) _))
  go_enter Tryd.func77, Tryd.ntmps77
  go_wp2_with fail
  refine (square_ok _ _ _ _ _ ha gp).mono ?_
  rintro e w1 ⟨rfl, J⟩
  obtain ⟨hc, hf⟩ := bcell J
  go_wp2_with fail
  refine (grid_one _ d1 (by omega) ad _ (h0.below (bw_trans b0 J))).mono ?_
  rintro e w1 ⟨rfl, J2⟩
  replace J := bw_trans J J2
  clear hc hf J2
  obtain ⟨hc, hf⟩ := bcell J
  have HB : Hid (Below w.heap.size w w1) := bw_trans (by repeat (first | exact bw_refl _ | assumption | apply bw_drewN | apply bw_drew | apply bw_alloc | refine bw_set ?_ (by simp) _)) J
  have hz := J.size
  simp at hz
  have hz' : w.heap.size + 2 < w1.heap.size := by omega
  clear hz J
  go_wp2_with fail
  exact bodyPost_ret (v := .agg #[.int .i64 (dt ax ay px py px py), .int .i64 1]) (by simp [results, Tryd.results77, go_sem, hc]) rfl ⟨rfl, by repeat (first | with_reducible exact HB.out | refine bw_set ?_ (by dsimp only; omega) _)⟩
set_option maxHeartbeats 400000 in
theorem farLast_ok (ax ay bx b_y px py : Int) (ad : Addr) (w : World) (h0 : Sent ad w) (gs : sgB ax ay bx b_y = true) (gp : ptB px py = true) :
    Calls Tryd.prog 79 #[.agg #[.int .i64 ax, .int .i64 ay, .int .i64 bx, .int .i64 b_y], .agg #[.int .i64 px, .int .i64 py]] w fun e w' => e = .returned (.agg #[.int .i64 (dt bx b_y px py px py), .int .i64 1]) ∧ Below w.heap.size w w' := by
  obtain ⟨ha, hb, _⟩ := sg_parts gs
  have d1 := dt_self_nonneg bx b_y px py
  have d2 := dt_bd hb gp gp
  have b0 : Below w.heap.size w (((w.alloc (.cells #[.int .i64 ax, .int .i64 ay, .int .i64 bx, .int .i64 b_y] 98)).alloc (.cells #[.int .i64 px, .int .i64 py] 28)).alloc (.cells #[.int .i64 0, .int .i64 0] 32)) := (by repeat (first | exact bw_refl _ | assumption | apply bw_drewN | apply bw_drew | apply bw_alloc | refine bw_set ?_ (by simp) _))
  go_enter Tryd.func79, Tryd.ntmps79
  go_wp2_with fail
  refine (square_ok _ _ _ _ _ hb gp).mono ?_
  rintro e w1 ⟨rfl, J⟩
  obtain ⟨hc, hf⟩ := bcell J
  go_wp2_with fail
  refine (grid_one _ d1 (by omega) ad _ (h0.below (bw_trans b0 J))).mono ?_
  rintro e w1 ⟨rfl, J2⟩
  replace J := bw_trans J J2
  clear hc hf J2
  obtain ⟨hc, hf⟩ := bcell J
  have HB : Hid (Below w.heap.size w w1) := bw_trans (by repeat (first | exact bw_refl _ | assumption | apply bw_drewN | apply bw_drew | apply bw_alloc | refine bw_set ?_ (by simp) _)) J
  have hz := J.size
  simp at hz
  have hz' : w.heap.size + 2 < w1.heap.size := by omega
  clear hz J
  go_wp2_with fail
  exact bodyPost_ret (v := .agg #[.int .i64 (dt bx b_y px py px py), .int .i64 1]) (by simp [results, Tryd.results79, go_sem, hc]) rfl ⟨rfl, by repeat (first | with_reducible exact HB.out | refine bw_set ?_ (by dsimp only; omega) _)⟩
set_option maxHeartbeats 400000 in
theorem farLine_ok (ax ay bx b_y px py : Int) (ad : Addr) (w : World) (h0 : Sent ad w) (gs : sgB ax ay bx b_y = true) (gp : ptB px py = true) :
    Calls Tryd.prog 78 #[.agg #[.int .i64 ax, .int .i64 ay, .int .i64 bx, .int .i64 b_y], .agg #[.int .i64 px, .int .i64 py]] w fun e w' => e = .returned (.agg #[.int .i64 (ofN (crs ax ay bx b_y px py * crs ax ay bx b_y px py) (dt ax ay bx b_y bx b_y)), .int .i64 (ofD (crs ax ay bx b_y px py * crs ax ay bx b_y px py) (dt ax ay bx b_y bx b_y))]) ∧ Below w.heap.size w w' := by
  obtain ⟨ha, hb, _⟩ := sg_parts gs
  have d1 := crs_bd ha hb gp
  have d2 := prod_bd2 d1.1 d1.2 d1.1 d1.2
  have b0 : Below w.heap.size w (((w.alloc (.cells #[.int .i64 ax, .int .i64 ay, .int .i64 bx, .int .i64 b_y] 98)).alloc (.cells #[.int .i64 px, .int .i64 py] 28)).alloc (.cells #[.int .i64 0, .int .i64 0] 32)) := (by repeat (first | exact bw_refl _ | assumption | apply bw_drewN | apply bw_drew | apply bw_alloc | refine bw_set ?_ (by simp) _))
  go_enter Tryd.func78, Tryd.ntmps78
  go_wp2_with fail
  refine (swept_any _ _ _ _ _ _ _ ha hb gp).mono ?_
  rintro e w1 ⟨rfl, J⟩
  obtain ⟨hc, hf⟩ := bcell J
  go_wp2_with fail
  refine (square_ok _ _ _ _ _ ha hb).mono ?_
  rintro e w1 ⟨rfl, J2⟩
  replace J := bw_trans J J2
  clear hc hf J2
  obtain ⟨hc, hf⟩ := bcell J
  go_wp2_with fail
  refine (grid_any _ _ ad _ (h0.below (bw_trans b0 J))).mono ?_
  rintro e w1 ⟨rfl, J2⟩
  replace J := bw_trans J J2
  clear hc hf J2
  obtain ⟨hc, hf⟩ := bcell J
  have HB : Hid (Below w.heap.size w w1) := bw_trans (by repeat (first | exact bw_refl _ | assumption | apply bw_drewN | apply bw_drew | apply bw_alloc | refine bw_set ?_ (by simp) _)) J
  have hz := J.size
  simp at hz
  have hz' : w.heap.size + 2 < w1.heap.size := by omega
  clear hz J
  go_wp2_with fail
  exact bodyPost_ret (v := .agg #[.int .i64 (ofN (crs ax ay bx b_y px py * crs ax ay bx b_y px py) (dt ax ay bx b_y bx b_y)), .int .i64 (ofD (crs ax ay bx b_y px py * crs ax ay bx b_y px py) (dt ax ay bx b_y bx b_y))]) (by simp [results, Tryd.results78, go_sem, hc]) rfl ⟨rfl, by repeat (first | with_reducible exact HB.out | refine bw_set ?_ (by dsimp only; omega) _)⟩
theorem where_first (ax ay bx b_y px py : Int) (w : World) (gs : sgB ax ay bx b_y = true) (gp : ptB px py = true) (h : dt ax ay bx b_y px py ≤ 0) :
    Calls Tryd.prog 80 #[.agg #[.int .i64 ax, .int .i64 ay, .int .i64 bx, .int .i64 b_y], .agg #[.int .i64 px, .int .i64 py]] w fun e w' => e = .returned (.int .i64 0) ∧ Below w.heap.size w w' := by
  obtain ⟨ha, hb, _⟩ := sg_parts gs
  go_enter Tryd.func80, Tryd.ntmps80
  go_wp2_with fail
  refine (along_any _ _ _ _ _ _ _ ha hb gp).mono ?_
  rintro e w1 ⟨rfl, J⟩
  obtain ⟨hc, hf⟩ := bcell J
  go_wp2_with fail
  go_ret
  exact ⟨rfl, bw_trans (by repeat (first | exact bw_refl _ | assumption | apply bw_drewN | apply bw_drew | apply bw_alloc | refine bw_set ?_ (by simp) _)) J⟩
theorem where_last (ax ay bx b_y px py : Int) (w : World) (gs : sgB ax ay bx b_y = true) (gp : ptB px py = true) (h : ¬ dt ax ay bx b_y px py ≤ 0) (h2 : dt bx b_y ax ay px py ≤ 0) :
    Calls Tryd.prog 80 #[.agg #[.int .i64 ax, .int .i64 ay, .int .i64 bx, .int .i64 b_y], .agg #[.int .i64 px, .int .i64 py]] w fun e w' => e = .returned (.int .i64 2) ∧ Below w.heap.size w w' := by
  obtain ⟨ha, hb, _⟩ := sg_parts gs
  have h' : 0 < dt ax ay bx b_y px py := by omega
  clear h
  go_enter Tryd.func80, Tryd.ntmps80
  go_wp2_with fail
  refine (along_any _ _ _ _ _ _ _ ha hb gp).mono ?_
  rintro e w1 ⟨rfl, J⟩
  obtain ⟨hc, hf⟩ := bcell J
  go_wp2_with fail
  refine (along_any _ _ _ _ _ _ _ hb ha gp).mono ?_
  rintro e w1 ⟨rfl, J2⟩
  replace J := bw_trans J J2
  clear hc hf J2
  obtain ⟨hc, hf⟩ := bcell J
  go_wp2_with fail
  go_ret
  exact ⟨rfl, bw_trans (by repeat (first | exact bw_refl _ | assumption | apply bw_drewN | apply bw_drew | apply bw_alloc | refine bw_set ?_ (by simp) _)) J⟩
theorem where_line (ax ay bx b_y px py : Int) (w : World) (gs : sgB ax ay bx b_y = true) (gp : ptB px py = true) (h : ¬ dt ax ay bx b_y px py ≤ 0) (h2 : ¬ dt bx b_y ax ay px py ≤ 0) :
    Calls Tryd.prog 80 #[.agg #[.int .i64 ax, .int .i64 ay, .int .i64 bx, .int .i64 b_y], .agg #[.int .i64 px, .int .i64 py]] w fun e w' => e = .returned (.int .i64 1) ∧ Below w.heap.size w w' := by
  obtain ⟨ha, hb, _⟩ := sg_parts gs
  have h' : 0 < dt ax ay bx b_y px py := by omega
  have h2' : 0 < dt bx b_y ax ay px py := by omega
  clear h h2
  go_enter Tryd.func80, Tryd.ntmps80
  go_wp2_with fail
  refine (along_any _ _ _ _ _ _ _ ha hb gp).mono ?_
  rintro e w1 ⟨rfl, J⟩
  obtain ⟨hc, hf⟩ := bcell J
  go_wp2_with fail
  refine (along_any _ _ _ _ _ _ _ hb ha gp).mono ?_
  rintro e w1 ⟨rfl, J2⟩
  replace J := bw_trans J J2
  clear hc hf J2
  obtain ⟨hc, hf⟩ := bcell J
  go_wp2_with fail
  go_ret
  exact ⟨rfl, bw_trans (by repeat (first | exact bw_refl _ | assumption | apply bw_drewN | apply bw_drew | apply bw_alloc | refine bw_set ?_ (by simp) _)) J⟩
end Go.Proofs.YtlikfcfblkckaaaDoor
namespace Go.Proofs.YtlikfcfblkckaaaDoor
open Go.RowKit Go.Sort

/-- How far, at whatever arguments. -/
def farV (ax ay bx b_y px py : Int) : Int × Int := if sgB ax ay bx b_y && ptB px py then far ax ay bx b_y px py else (0, 0)
theorem ret_fr {a b c d : Int} (h : a = c) (h2 : b = d) : Ending.returned (.agg #[.int .i64 a, .int .i64 b]) = .returned (.agg #[.int .i64 c, .int .i64 d]) := by rw [h, h2]
theorem blk_3 {w : World} {b : Nat} {x y z : Value} {t : TypeId} (h : w.heap[b]? = some (.cells #[x, y, z] t (0, 0))) :
    w.cell? ⟨b, 0, none⟩ = some x ∧ w.cell? ⟨b, 1, none⟩ = some y ∧ w.cell? ⟨b, 2, none⟩ = some z := by
  refine ⟨?_, ?_, ?_⟩ <;> simp [World.cell?, h]
theorem blkF {w : World} {b : Nat} {x y : Value} {t : TypeId} (h : w.heap[b]? = some (.cells #[x, y] t (0, 0))) :
    w.cell? ⟨b, 0, none⟩ = some x ∧ w.cell? ⟨b, 1, none⟩ = some y ∧ w.frozen? ⟨b, 0, none⟩ = false ∧ w.frozen? ⟨b, 1, none⟩ = false := by
  refine ⟨?_, ?_, ?_, ?_⟩ <;> simp [World.cell?, World.frozen?, h]
theorem farV_ok {ax ay bx b_y px py : Int} (gs : sgB ax ay bx b_y = true) (gp : ptB px py = true) : farV ax ay bx b_y px py = far ax ay bx b_y px py := by unfold farV; rw [gs, gp]; rfl
set_option maxHeartbeats 1000000 in
theorem segFar_no (ax ay bx b_y px py : Int) (w : World) (h : sgB ax ay bx b_y = false ∨ (sgB ax ay bx b_y = true ∧ ptB px py = false)) :
    Calls Tryd.prog 65 #[.agg #[.int .i64 ax, .int .i64 ay, .int .i64 bx, .int .i64 b_y], .agg #[.int .i64 px, .int .i64 py]] w fun e w' => e = .returned (.agg #[.int .i64 0, .int .i64 0]) ∧ Below w.heap.size w w' := by
  rcases h with gs | ⟨gs, gp⟩
  · go_enter Tryd.func65, Tryd.ntmps65
    go_wp2_with fail
    refine (segOk_any _ _ _ _ _).mono ?_
    rw [gs]
    rintro e w1 ⟨rfl, J⟩
    obtain ⟨hc, hf⟩ := bcell J
    have HB : Hid (Below w.heap.size w w1) := bw_trans (by repeat (first | exact bw_refl _ | assumption | apply bw_drewN | apply bw_drew | apply bw_alloc | refine bw_set ?_ (by simp) _)) J
    have hz := J.size
    simp at hz
    have hz' : w.heap.size + 2 < w1.heap.size := by omega
    clear hz J
    go_wp2_with fail
    exact bodyPost_ret (v := .agg #[.int .i64 0, .int .i64 0]) (by simp [results, Tryd.results65, go_sem, hc]) rfl ⟨rfl, by repeat (first | with_reducible exact HB.out | with_reducible refine bw_set ?_ (by dsimp only; omega) _)⟩
  · go_enter Tryd.func65, Tryd.ntmps65
    go_wp2_with fail
    refine (segOk_any _ _ _ _ _).mono ?_
    rw [gs]
    rintro e w1 ⟨rfl, J⟩
    obtain ⟨hc, hf⟩ := bcell J
    go_wp2_with fail
    refine (ptOk_any _ _ _).mono ?_
    rw [gp]
    rintro e w1 ⟨rfl, J2⟩
    replace J := bw_trans J J2
    clear hc hf J2
    obtain ⟨hc, hf⟩ := bcell J
    have HB : Hid (Below w.heap.size w w1) := bw_trans (by repeat (first | exact bw_refl _ | assumption | apply bw_drewN | apply bw_drew | apply bw_alloc | refine bw_set ?_ (by simp) _)) J
    have hz := J.size
    simp at hz
    have hz' : w.heap.size + 2 < w1.heap.size := by omega
    clear hz J
    go_wp2_with fail
    exact bodyPost_ret (v := .agg #[.int .i64 0, .int .i64 0]) (by simp [results, Tryd.results65, go_sem, hc]) rfl ⟨rfl, by repeat (first | with_reducible exact HB.out | with_reducible refine bw_set ?_ (by dsimp only; omega) _)⟩
set_option maxHeartbeats 2000000 in
theorem segFar_first (ax ay bx b_y px py : Int) (ad : Addr) (w : World) (h0 : Sent ad w) (gs : sgB ax ay bx b_y = true) (gp : ptB px py = true) (h : dt ax ay bx b_y px py ≤ 0) :
    Calls Tryd.prog 65 #[.agg #[.int .i64 ax, .int .i64 ay, .int .i64 bx, .int .i64 b_y], .agg #[.int .i64 px, .int .i64 py]] w fun e w' => e = .returned (.agg #[.int .i64 (dt ax ay px py px py), .int .i64 1]) ∧ Below w.heap.size w w' := by
  have b0 : Below w.heap.size w (((w.alloc (.cells #[.int .i64 ax, .int .i64 ay, .int .i64 bx, .int .i64 b_y] 98)).alloc (.cells #[.int .i64 px, .int .i64 py] 28)).alloc (.cells #[.int .i64 0, .int .i64 0] 32)) := (by repeat (first | exact bw_refl _ | assumption | apply bw_drewN | apply bw_drew | apply bw_alloc | refine bw_set ?_ (by simp) _))
  obtain ⟨W, hW, BW, SB, PB, RB⟩ := boxes3 w (.cells #[.int .i64 ax, .int .i64 ay, .int .i64 bx, .int .i64 b_y] 98) (.cells #[.int .i64 px, .int .i64 py] 28) (.cells #[.int .i64 0, .int .i64 0] 32)
  have WH : Hid (∀ w, Calls Tryd.prog 80 #[.agg #[.int .i64 ax, .int .i64 ay, .int .i64 bx, .int .i64 b_y], .agg #[.int .i64 px, .int .i64 py]] w fun e w' => e = .returned (.int .i64 0) ∧ Below w.heap.size w w') := fun w => where_first ax ay bx b_y px py w gs gp h
  have FA : Hid (∀ w, Sent ad w → _) := fun w hs => farFirst_ok ax ay bx b_y px py ad w hs gs gp
  clear h
  go_enter Tryd.func65, Tryd.ntmps65
  go_wp2_with fail
  refine (segOk_any _ _ _ _ _).mono ?_
  rw [gs]
  rintro e w1 ⟨rfl, J⟩
  obtain ⟨hc, hf⟩ := bcell J
  go_wp2_with fail
  refine (ptOk_any _ _ _).mono ?_
  rw [gp]
  rintro e w1 ⟨rfl, J2⟩
  replace J := bw_trans J J2
  clear hc hf J2
  obtain ⟨hc, hf⟩ := bcell J
  go_upto_region 4 with fail
  have FT : Hid (∃ W2, W2 = w1.alloc (.cells #[.func (.func 77) #[] #[], .func (.func 78) #[] #[], .func (.func 79) #[] #[]] 139)) := ⟨_, rfl⟩
  obtain ⟨W2, hW2⟩ := FT.out
  rw [← hW2]
  rw [← hW] at J
  replace SB := keep J SB
  replace PB := keep J PB
  replace RB := keep J RB
  have zr := blk_lt RB
  have nz : w1.heap.size < W2.heap.size := by rw [hW2]; simp
  have A2 := bw_alloc (bw_refl w1) (.cells #[.func (.func 77) #[] #[], .func (.func 78) #[] #[], .func (.func 79) #[] #[]] 139)
  have TB := heap_new w1 (.cells #[.func (.func 77) #[] #[], .func (.func 78) #[] #[], .func (.func 79) #[] #[]] 139)
  rw [← hW2] at A2 TB
  replace SB := keep A2 SB
  replace PB := keep A2 PB
  replace RB := keep A2 RB
  have H := bw_trans BW (bw_trans J A2)
  have hS0 : (fun w' => w'.cell? ⟨w.heap.size, 0, none⟩ = some (.int .i64 ax) ∧ w'.cell? ⟨w.heap.size, 1, none⟩ = some (.int .i64 ay) ∧ w'.cell? ⟨w.heap.size, 2, none⟩ = some (.int .i64 bx) ∧ w'.cell? ⟨w.heap.size, 3, none⟩ = some (.int .i64 b_y) ∧ w'.cell? ⟨w.heap.size + 1, 0, none⟩ = some (.int .i64 px) ∧ w'.cell? ⟨w.heap.size + 1, 1, none⟩ = some (.int .i64 py) ∧ w'.cell? ⟨w1.heap.size, 0, none⟩ = some (.func (.func 77) #[] #[]) ∧ w'.cell? ⟨w1.heap.size, 1, none⟩ = some (.func (.func 78) #[] #[]) ∧ w'.cell? ⟨w1.heap.size, 2, none⟩ = some (.func (.func 79) #[] #[])) W2 := by
    obtain ⟨s0, s1, s2, s3⟩ := blk_4 SB
    obtain ⟨p0, p1⟩ := blk_2 PB
    obtain ⟨t0, t1, t2⟩ := blk_3 TB
    exact ⟨s0, s1, s2, s3, p0, p1, t0, t1, t2⟩
  clear hW hc hf J A2 SB PB TB BW b0 FT hW2
  have hsD : Sent ad W2.drew := h0.below H.drew
  replace H := H.drew
  replace RB : W2.drew.heap[w.heap.size + 2]? = _ := RB
  go_region_held3 (fun w' => w'.cell? ⟨w.heap.size, 0, none⟩ = some (.int .i64 ax) ∧ w'.cell? ⟨w.heap.size, 1, none⟩ = some (.int .i64 ay) ∧ w'.cell? ⟨w.heap.size, 2, none⟩ = some (.int .i64 bx) ∧ w'.cell? ⟨w.heap.size, 3, none⟩ = some (.int .i64 b_y) ∧ w'.cell? ⟨w.heap.size + 1, 0, none⟩ = some (.int .i64 px) ∧ w'.cell? ⟨w.heap.size + 1, 1, none⟩ = some (.int .i64 py) ∧ w'.cell? ⟨w1.heap.size, 0, none⟩ = some (.func (.func 77) #[] #[]) ∧ w'.cell? ⟨w1.heap.size, 1, none⟩ = some (.func (.func 78) #[] #[]) ∧ w'.cell? ⟨w1.heap.size, 2, none⟩ = some (.func (.func 79) #[] #[])) (first | exact cB9 K (by assumption) | exact hS0 | exact cS9 (by assumption) (by dsimp only; omega) (by dsimp only; omega) (by dsimp only; omega) (by dsimp only; omega) (by dsimp only; omega) (by dsimp only; omega) (by dsimp only; omega) (by dsimp only; omega) (by dsimp only; omega)) (first | (go_at_call 80; refine (WH.out _).mono ?_; rintro e w2 ⟨rfl, K⟩; have hs2 := hsD.below K; replace H := bw_trans H K; replace RB := keep K RB) | (go_at_call 77; refine (FA.out _ hs2).mono ?_; rintro e w3 ⟨rfl, K⟩; replace H := bw_trans H K; replace RB := keep K RB; obtain ⟨q0, q1, qf0, qf1⟩ := blkF RB))
  have HB : Hid _ := H
  have zz := blk_lt RB
  have R2 := setF2 RB (u0 := .int .i64 (dt ax ay px py px py)) (u1 := .int .i64 1)
  obtain ⟨r0, r1⟩ := blk_2 R2
  clear H RB R2
  go_wp2_with fail
  exact bodyPost_ret (v := .agg #[.int .i64 (dt ax ay px py px py), .int .i64 1]) (by simp [results, Tryd.results65, go_sem, r0, r1]) rfl ⟨rfl, by repeat (first | with_reducible exact HB.out | with_reducible refine bw_set ?_ (by dsimp only; omega) _)⟩
end Go.Proofs.YtlikfcfblkckaaaDoor
namespace Go.Proofs.YtlikfcfblkckaaaDoor
open Go.RowKit Go.Sort

set_option maxHeartbeats 2000000 in
theorem segFar_last (ax ay bx b_y px py : Int) (ad : Addr) (w : World) (h0 : Sent ad w) (gs : sgB ax ay bx b_y = true) (gp : ptB px py = true) (h : ¬ dt ax ay bx b_y px py ≤ 0) (h2 : dt bx b_y ax ay px py ≤ 0) :
    Calls Tryd.prog 65 #[.agg #[.int .i64 ax, .int .i64 ay, .int .i64 bx, .int .i64 b_y], .agg #[.int .i64 px, .int .i64 py]] w fun e w' => e = .returned (.agg #[.int .i64 (dt bx b_y px py px py), .int .i64 1]) ∧ Below w.heap.size w w' := by
  have b0 : Below w.heap.size w (((w.alloc (.cells #[.int .i64 ax, .int .i64 ay, .int .i64 bx, .int .i64 b_y] 98)).alloc (.cells #[.int .i64 px, .int .i64 py] 28)).alloc (.cells #[.int .i64 0, .int .i64 0] 32)) := (by repeat (first | exact bw_refl _ | assumption | apply bw_drewN | apply bw_drew | apply bw_alloc | refine bw_set ?_ (by simp) _))
  obtain ⟨W, hW, BW, SB, PB, RB⟩ := boxes3 w (.cells #[.int .i64 ax, .int .i64 ay, .int .i64 bx, .int .i64 b_y] 98) (.cells #[.int .i64 px, .int .i64 py] 28) (.cells #[.int .i64 0, .int .i64 0] 32)
  have WH : Hid (∀ w, Calls Tryd.prog 80 #[.agg #[.int .i64 ax, .int .i64 ay, .int .i64 bx, .int .i64 b_y], .agg #[.int .i64 px, .int .i64 py]] w fun e w' => e = .returned (.int .i64 2) ∧ Below w.heap.size w w') := fun w => where_last ax ay bx b_y px py w gs gp h h2
  have FA : Hid (∀ w, Sent ad w → _) := fun w hs => farLast_ok ax ay bx b_y px py ad w hs gs gp
  clear h h2
  go_enter Tryd.func65, Tryd.ntmps65
  go_wp2_with fail
  refine (segOk_any _ _ _ _ _).mono ?_
  rw [gs]
  rintro e w1 ⟨rfl, J⟩
  obtain ⟨hc, hf⟩ := bcell J
  go_wp2_with fail
  refine (ptOk_any _ _ _).mono ?_
  rw [gp]
  rintro e w1 ⟨rfl, J2⟩
  replace J := bw_trans J J2
  clear hc hf J2
  obtain ⟨hc, hf⟩ := bcell J
  go_upto_region 4 with fail
  have FT : Hid (∃ W2, W2 = w1.alloc (.cells #[.func (.func 77) #[] #[], .func (.func 78) #[] #[], .func (.func 79) #[] #[]] 139)) := ⟨_, rfl⟩
  obtain ⟨W2, hW2⟩ := FT.out
  rw [← hW2]
  rw [← hW] at J
  replace SB := keep J SB
  replace PB := keep J PB
  replace RB := keep J RB
  have zr := blk_lt RB
  have nz : w1.heap.size < W2.heap.size := by rw [hW2]; simp
  have A2 := bw_alloc (bw_refl w1) (.cells #[.func (.func 77) #[] #[], .func (.func 78) #[] #[], .func (.func 79) #[] #[]] 139)
  have TB := heap_new w1 (.cells #[.func (.func 77) #[] #[], .func (.func 78) #[] #[], .func (.func 79) #[] #[]] 139)
  rw [← hW2] at A2 TB
  replace SB := keep A2 SB
  replace PB := keep A2 PB
  replace RB := keep A2 RB
  have H := bw_trans BW (bw_trans J A2)
  have hS0 : (fun w' => w'.cell? ⟨w.heap.size, 0, none⟩ = some (.int .i64 ax) ∧ w'.cell? ⟨w.heap.size, 1, none⟩ = some (.int .i64 ay) ∧ w'.cell? ⟨w.heap.size, 2, none⟩ = some (.int .i64 bx) ∧ w'.cell? ⟨w.heap.size, 3, none⟩ = some (.int .i64 b_y) ∧ w'.cell? ⟨w.heap.size + 1, 0, none⟩ = some (.int .i64 px) ∧ w'.cell? ⟨w.heap.size + 1, 1, none⟩ = some (.int .i64 py) ∧ w'.cell? ⟨w1.heap.size, 0, none⟩ = some (.func (.func 77) #[] #[]) ∧ w'.cell? ⟨w1.heap.size, 1, none⟩ = some (.func (.func 78) #[] #[]) ∧ w'.cell? ⟨w1.heap.size, 2, none⟩ = some (.func (.func 79) #[] #[])) W2 := by
    obtain ⟨s0, s1, s2, s3⟩ := blk_4 SB
    obtain ⟨p0, p1⟩ := blk_2 PB
    obtain ⟨t0, t1, t2⟩ := blk_3 TB
    exact ⟨s0, s1, s2, s3, p0, p1, t0, t1, t2⟩
  clear hW hc hf J A2 SB PB TB BW b0 FT hW2
  have hsD : Sent ad W2.drew := h0.below H.drew
  replace H := H.drew
  replace RB : W2.drew.heap[w.heap.size + 2]? = _ := RB
  go_region_held3 (fun w' => w'.cell? ⟨w.heap.size, 0, none⟩ = some (.int .i64 ax) ∧ w'.cell? ⟨w.heap.size, 1, none⟩ = some (.int .i64 ay) ∧ w'.cell? ⟨w.heap.size, 2, none⟩ = some (.int .i64 bx) ∧ w'.cell? ⟨w.heap.size, 3, none⟩ = some (.int .i64 b_y) ∧ w'.cell? ⟨w.heap.size + 1, 0, none⟩ = some (.int .i64 px) ∧ w'.cell? ⟨w.heap.size + 1, 1, none⟩ = some (.int .i64 py) ∧ w'.cell? ⟨w1.heap.size, 0, none⟩ = some (.func (.func 77) #[] #[]) ∧ w'.cell? ⟨w1.heap.size, 1, none⟩ = some (.func (.func 78) #[] #[]) ∧ w'.cell? ⟨w1.heap.size, 2, none⟩ = some (.func (.func 79) #[] #[])) (first | exact cB9 K (by assumption) | exact hS0 | exact cS9 (by assumption) (by dsimp only; omega) (by dsimp only; omega) (by dsimp only; omega) (by dsimp only; omega) (by dsimp only; omega) (by dsimp only; omega) (by dsimp only; omega) (by dsimp only; omega) (by dsimp only; omega)) (first | (go_at_call 80; refine (WH.out _).mono ?_; rintro e w2 ⟨rfl, K⟩; have hs2 := hsD.below K; replace H := bw_trans H K; replace RB := keep K RB) | (go_at_call 79; refine (FA.out _ hs2).mono ?_; rintro e w3 ⟨rfl, K⟩; replace H := bw_trans H K; replace RB := keep K RB; obtain ⟨q0, q1, qf0, qf1⟩ := blkF RB))
  have HB : Hid _ := H
  have zz := blk_lt RB
  have R2 := setF2 RB (u0 := .int .i64 (dt bx b_y px py px py)) (u1 := .int .i64 1)
  obtain ⟨r0, r1⟩ := blk_2 R2
  clear H RB R2
  go_wp2_with fail
  exact bodyPost_ret (v := .agg #[.int .i64 (dt bx b_y px py px py), .int .i64 1]) (by simp [results, Tryd.results65, go_sem, r0, r1]) rfl ⟨rfl, by repeat (first | with_reducible exact HB.out | with_reducible refine bw_set ?_ (by dsimp only; omega) _)⟩
set_option maxHeartbeats 2000000 in
theorem segFar_line (ax ay bx b_y px py : Int) (ad : Addr) (w : World) (h0 : Sent ad w) (gs : sgB ax ay bx b_y = true) (gp : ptB px py = true) (h : ¬ dt ax ay bx b_y px py ≤ 0) (h2 : ¬ dt bx b_y ax ay px py ≤ 0) :
    Calls Tryd.prog 65 #[.agg #[.int .i64 ax, .int .i64 ay, .int .i64 bx, .int .i64 b_y], .agg #[.int .i64 px, .int .i64 py]] w fun e w' => e = .returned (.agg #[.int .i64 (ofN (crs ax ay bx b_y px py * crs ax ay bx b_y px py) (dt ax ay bx b_y bx b_y)), .int .i64 (ofD (crs ax ay bx b_y px py * crs ax ay bx b_y px py) (dt ax ay bx b_y bx b_y))]) ∧ Below w.heap.size w w' := by
  have b0 : Below w.heap.size w (((w.alloc (.cells #[.int .i64 ax, .int .i64 ay, .int .i64 bx, .int .i64 b_y] 98)).alloc (.cells #[.int .i64 px, .int .i64 py] 28)).alloc (.cells #[.int .i64 0, .int .i64 0] 32)) := (by repeat (first | exact bw_refl _ | assumption | apply bw_drewN | apply bw_drew | apply bw_alloc | refine bw_set ?_ (by simp) _))
  obtain ⟨W, hW, BW, SB, PB, RB⟩ := boxes3 w (.cells #[.int .i64 ax, .int .i64 ay, .int .i64 bx, .int .i64 b_y] 98) (.cells #[.int .i64 px, .int .i64 py] 28) (.cells #[.int .i64 0, .int .i64 0] 32)
  have WH : Hid (∀ w, Calls Tryd.prog 80 #[.agg #[.int .i64 ax, .int .i64 ay, .int .i64 bx, .int .i64 b_y], .agg #[.int .i64 px, .int .i64 py]] w fun e w' => e = .returned (.int .i64 1) ∧ Below w.heap.size w w') := fun w => where_line ax ay bx b_y px py w gs gp h h2
  have FA : Hid (∀ w, Sent ad w → _) := fun w hs => farLine_ok ax ay bx b_y px py ad w hs gs gp
  clear h h2
  go_enter Tryd.func65, Tryd.ntmps65
  go_wp2_with fail
  refine (segOk_any _ _ _ _ _).mono ?_
  rw [gs]
  rintro e w1 ⟨rfl, J⟩
  obtain ⟨hc, hf⟩ := bcell J
  go_wp2_with fail
  refine (ptOk_any _ _ _).mono ?_
  rw [gp]
  rintro e w1 ⟨rfl, J2⟩
  replace J := bw_trans J J2
  clear hc hf J2
  obtain ⟨hc, hf⟩ := bcell J
  go_upto_region 4 with fail
  have FT : Hid (∃ W2, W2 = w1.alloc (.cells #[.func (.func 77) #[] #[], .func (.func 78) #[] #[], .func (.func 79) #[] #[]] 139)) := ⟨_, rfl⟩
  obtain ⟨W2, hW2⟩ := FT.out
  rw [← hW2]
  rw [← hW] at J
  replace SB := keep J SB
  replace PB := keep J PB
  replace RB := keep J RB
  have zr := blk_lt RB
  have nz : w1.heap.size < W2.heap.size := by rw [hW2]; simp
  have A2 := bw_alloc (bw_refl w1) (.cells #[.func (.func 77) #[] #[], .func (.func 78) #[] #[], .func (.func 79) #[] #[]] 139)
  have TB := heap_new w1 (.cells #[.func (.func 77) #[] #[], .func (.func 78) #[] #[], .func (.func 79) #[] #[]] 139)
  rw [← hW2] at A2 TB
  replace SB := keep A2 SB
  replace PB := keep A2 PB
  replace RB := keep A2 RB
  have H := bw_trans BW (bw_trans J A2)
  have hS0 : (fun w' => w'.cell? ⟨w.heap.size, 0, none⟩ = some (.int .i64 ax) ∧ w'.cell? ⟨w.heap.size, 1, none⟩ = some (.int .i64 ay) ∧ w'.cell? ⟨w.heap.size, 2, none⟩ = some (.int .i64 bx) ∧ w'.cell? ⟨w.heap.size, 3, none⟩ = some (.int .i64 b_y) ∧ w'.cell? ⟨w.heap.size + 1, 0, none⟩ = some (.int .i64 px) ∧ w'.cell? ⟨w.heap.size + 1, 1, none⟩ = some (.int .i64 py) ∧ w'.cell? ⟨w1.heap.size, 0, none⟩ = some (.func (.func 77) #[] #[]) ∧ w'.cell? ⟨w1.heap.size, 1, none⟩ = some (.func (.func 78) #[] #[]) ∧ w'.cell? ⟨w1.heap.size, 2, none⟩ = some (.func (.func 79) #[] #[])) W2 := by
    obtain ⟨s0, s1, s2, s3⟩ := blk_4 SB
    obtain ⟨p0, p1⟩ := blk_2 PB
    obtain ⟨t0, t1, t2⟩ := blk_3 TB
    exact ⟨s0, s1, s2, s3, p0, p1, t0, t1, t2⟩
  clear hW hc hf J A2 SB PB TB BW b0 FT hW2
  have hsD : Sent ad W2.drew := h0.below H.drew
  replace H := H.drew
  replace RB : W2.drew.heap[w.heap.size + 2]? = _ := RB
  go_region_held3 (fun w' => w'.cell? ⟨w.heap.size, 0, none⟩ = some (.int .i64 ax) ∧ w'.cell? ⟨w.heap.size, 1, none⟩ = some (.int .i64 ay) ∧ w'.cell? ⟨w.heap.size, 2, none⟩ = some (.int .i64 bx) ∧ w'.cell? ⟨w.heap.size, 3, none⟩ = some (.int .i64 b_y) ∧ w'.cell? ⟨w.heap.size + 1, 0, none⟩ = some (.int .i64 px) ∧ w'.cell? ⟨w.heap.size + 1, 1, none⟩ = some (.int .i64 py) ∧ w'.cell? ⟨w1.heap.size, 0, none⟩ = some (.func (.func 77) #[] #[]) ∧ w'.cell? ⟨w1.heap.size, 1, none⟩ = some (.func (.func 78) #[] #[]) ∧ w'.cell? ⟨w1.heap.size, 2, none⟩ = some (.func (.func 79) #[] #[])) (first | exact cB9 K (by assumption) | exact hS0 | exact cS9 (by assumption) (by dsimp only; omega) (by dsimp only; omega) (by dsimp only; omega) (by dsimp only; omega) (by dsimp only; omega) (by dsimp only; omega) (by dsimp only; omega) (by dsimp only; omega) (by dsimp only; omega)) (first | (go_at_call 80; refine (WH.out _).mono ?_; rintro e w2 ⟨rfl, K⟩; have hs2 := hsD.below K; replace H := bw_trans H K; replace RB := keep K RB) | (go_at_call 78; refine (FA.out _ hs2).mono ?_; rintro e w3 ⟨rfl, K⟩; replace H := bw_trans H K; replace RB := keep K RB; obtain ⟨q0, q1, qf0, qf1⟩ := blkF RB))
  have HB : Hid _ := H
  have zz := blk_lt RB
  have R2 := setF2 RB (u0 := .int .i64 (ofN (crs ax ay bx b_y px py * crs ax ay bx b_y px py) (dt ax ay bx b_y bx b_y))) (u1 := .int .i64 (ofD (crs ax ay bx b_y px py * crs ax ay bx b_y px py) (dt ax ay bx b_y bx b_y)))
  obtain ⟨r0, r1⟩ := blk_2 R2
  clear H RB R2
  go_wp2_with fail
  exact bodyPost_ret (v := .agg #[.int .i64 (ofN (crs ax ay bx b_y px py * crs ax ay bx b_y px py) (dt ax ay bx b_y bx b_y)), .int .i64 (ofD (crs ax ay bx b_y px py * crs ax ay bx b_y px py) (dt ax ay bx b_y bx b_y))]) (by simp [results, Tryd.results65, go_sem, r0, r1]) rfl ⟨rfl, by repeat (first | with_reducible exact HB.out | with_reducible refine bw_set ?_ (by dsimp only; omega) _)⟩
theorem segFar_ok (ax ay bx b_y px py : Int) (ad : Addr) (w : World) (h0 : Sent ad w) (gs : sgB ax ay bx b_y = true) (gp : ptB px py = true) :
    Calls Tryd.prog 65 #[.agg #[.int .i64 ax, .int .i64 ay, .int .i64 bx, .int .i64 b_y], .agg #[.int .i64 px, .int .i64 py]] w fun e w' => e = .returned (.agg #[.int .i64 (far ax ay bx b_y px py).1, .int .i64 (far ax ay bx b_y px py).2]) ∧ Below w.heap.size w w' := by
  unfold far
  by_cases h : dt ax ay bx b_y px py ≤ 0
  · rw [if_pos h]; exact segFar_first _ _ _ _ _ _ ad w h0 gs gp h
  · rw [if_neg h]
    by_cases h2 : dt bx b_y ax ay px py ≤ 0
    · rw [if_pos h2]; exact segFar_last _ _ _ _ _ _ ad w h0 gs gp h h2
    · rw [if_neg h2]; exact segFar_line _ _ _ _ _ _ ad w h0 gs gp h h2
theorem segFar_any (ax ay bx b_y px py : Int) (ad : Addr) (w : World) (h0 : Sent ad w) :
    Calls Tryd.prog 65 #[.agg #[.int .i64 ax, .int .i64 ay, .int .i64 bx, .int .i64 b_y], .agg #[.int .i64 px, .int .i64 py]] w fun e w' => e = .returned (.agg #[.int .i64 (farV ax ay bx b_y px py).1, .int .i64 (farV ax ay bx b_y px py).2]) ∧ Below w.heap.size w w' := by
  cases gs : sgB ax ay bx b_y
  · have e : farV ax ay bx b_y px py = (0, 0) := by unfold farV; rw [gs]; rfl
    rw [e]; exact segFar_no _ _ _ _ _ _ w (.inl gs)
  · cases gp : ptB px py
    · have e : farV ax ay bx b_y px py = (0, 0) := by unfold farV; rw [gs, gp]; rfl
      rw [e]; exact segFar_no _ _ _ _ _ _ w (.inr ⟨gs, gp⟩)
    · rw [farV_ok gs gp]; exact segFar_ok _ _ _ _ _ _ ad w h0 gs gp
end Go.Proofs.YtlikfcfblkckaaaDoor
namespace Go.Proofs.YtlikfcfblkckaaaDoor
open Go.RowKit Go.Shelf Go.Sort
attribute [local go_sem] Oper.semAt_some

theorem Tryd.infoFrac : (Tryd.prog.info? 32).map (fun i => (i.zero, i.size, i.bytes)) = some (some (.agg #[.int .i64 0, .int .i64 0]), 2, 16) := by kernel_rfl
/-- How far a point is from a segment. -/
def farS (p : P2) (s : P2 × P2) : Int × Int := farV s.1.1 s.1.2 s.2.1 s.2.2 p.1 p.2
def frCells (fs : List (Int × Int)) : List Value := fs.flatMap fun f => [.int .i64 f.1, .int .i64 f.2]
theorem frCells_snoc (fs : List (Int × Int)) (f : Int × Int) : frCells (fs ++ [f]) = frCells fs ++ [.int .i64 f.1, .int .i64 f.2] := by simp [frCells]
set_option maxRecDepth 100000 in
set_option maxHeartbeats 4000000 in
theorem fars_in (n : Nat) (hn : 12 ≤ n) (b : Nat) (rs : List RingT) (p : P2) (ad : Addr) (w : World) (h0 : Sent ad w) (hR : RingN w.heap.size w (some ⟨b, 0, none⟩) rs) (hes : (edgR rs).length ≤ 1000) :
    CallsIn Fence.wide n Tryd.prog 45 #[.pointer (some ⟨b, 0, none⟩), .agg #[.int .i64 p.1, .int .i64 p.2]] w fun e W' => ∃ v, e = .returned v ∧ W'.ownsRow w.heap.size 32 2 v (edgR rs).length (frCells ((edgR rs).map (farS p))) ∧ Below w.heap.size w W' := by
  obtain ⟨i0, hi0, hz0, hz1, hz2⟩ := info_parts Tryd.infoFrac
  have h1 : 1 ≤ n := by omega
  have hmx : Tryd.prog.follows .mixedOrders = true := by kernel_rfl
  refine callsIn_of_wp_marks Tryd.func45 rfl trivial ?_ rfl
  simp only [Tryd.ntmps45, List.size_toArray, List.length_cons, List.length_nil, Nat.reduceAdd, Nat.reduceSub, Array.replicate_succ, Array.replicate_zero, List.push_toArray, List.append_toArray, List.nil_append, List.cons_append]
  gi_wp2_with (refine ⟨trivial, ?_⟩; gi_at_call 64; refine (ringEdges_in (n - 1) _ _).mono ?_; rintro e w' ⟨rfl, rfl⟩)
  have Q0 := ((Lies.new' w w.heap.size rfl #[.int .i64 p.1, .int .i64 p.2] 28).alloc (.cells #[.slice none 0 0] 93)).alloc (.cells #[.pointer (some ⟨b, 0, none⟩)] 83)
  have M := (Lies.new' (w.alloc (.cells #[.int .i64 p.1, .int .i64 p.2] 28)) (w.heap.size + 1) (by simp) #[.slice none 0 0] 93).alloc (.cells #[.pointer (some ⟨b, 0, none⟩)] 83)
  have L1 := Lies.new' ((w.alloc (.cells #[.int .i64 p.1, .int .i64 p.2] 28)).alloc (.cells #[.slice none 0 0] 93)) (w.heap.size + 1 + 1) (by simp) #[.pointer (some ⟨b, 0, none⟩)] 83
  have hB0 : Below w.heap.size w (((w.alloc (.cells #[.int .i64 p.1, .int .i64 p.2] 28)).alloc (.cells #[.slice none 0 0] 93)).alloc (.cells #[.pointer (some ⟨b, 0, none⟩)] 83)) := (by repeat (first | exact bw_refl _ | assumption | apply bw_drewN | apply bw_drew | apply bw_alloc | refine bw_set ?_ (by simp) _))
  have hsz : (((w.alloc (.cells #[.int .i64 p.1, .int .i64 p.2] 28)).alloc (.cells #[.slice none 0 0] 93)).alloc (.cells #[.pointer (some ⟨b, 0, none⟩)] 83)).heap.size = w.heap.size + 3 := by simp
  obtain ⟨W0, hW0⟩ : ∃ W0, ((w.alloc (.cells #[.int .i64 p.1, .int .i64 p.2] 28)).alloc (.cells #[.slice none 0 0] 93)).alloc (.cells #[.pointer (some ⟨b, 0, none⟩)] 83) = W0 := ⟨_, rfl⟩
  rw [hW0] at Q0 M L1 hB0 hsz ⊢
  clear hW0
  have hseq := ringE_seq (n - 1) (by omega) (w.heap.size + 1 + 1) w.heap.size (some ⟨b, 0, none⟩) rs W0 L1.c1 (by omega) (hR.keep hB0)
  refine wpIn_rangeO rfl h1 (gf := 76) (lb := #[.pointer (some ⟨w.heap.size + 1 + 1, 0, none⟩)]) rfl trivial (enters_of Tryd.func76 (by kernel_rfl) rfl)
    hseq KT_t (KT_b (by omega)) (Below.refl _ _) (fun _ => rfl)
    (fun pre W => ((∃ vv, Boxed W (w.heap.size + 1) 93 vv ∧ W.ownsRow w.heap.size 32 2 vv pre.length (frCells (pre.map (farS p))) ∧ True) ∧ Lies w.heap.size #[.int .i64 p.1, .int .i64 p.2] 28 W) ∧ Below w.heap.size w W)
    (OwnFrom.and (OwnFrom.and (Own.from (holdsRow_own w.heap.size (w.heap.size + 1) 93 32 2 (fun pre : List (P2 × P2) => pre.length) (fun pre => frCells (pre.map (farS p))) (fun _ _ => True)) _) (lies_from _ _ _ _)) (ownFrom_below (Nat.le_refl _) (by omega)))
    ⟨⟨⟨_, M, ⟨rfl, .inl ⟨rfl, rfl⟩⟩, trivial⟩, Q0⟩, hB0⟩
    (fun x a' W => ∃ Bx, w.heap.size + 1 < Bx ∧ Lies Bx #[.int .i64 x.1.1, .int .i64 x.1.2, .int .i64 x.2.1, .int .i64 x.2.2] 98 W ∧ a' = { tmps := #[.pointer (some ⟨b, 0, none⟩), .agg #[.int .i64 p.1, .int .i64 p.2], undef, .pointer (some ⟨w.heap.size, 0, none⟩), .slice none 0 0, .pointer (some ⟨w.heap.size + 1, 0, none⟩), .pointer (some ⟨Bx, 0, none⟩), .pointer (some ⟨b, 0, none⟩), .pointer (some ⟨b, 0, none⟩), .pointer (some ⟨b, 0, none⟩), .func (.func 76) #[] #[.pointer (some ⟨w.heap.size + 1 + 1, 0, none⟩)], .agg #[.int .i64 x.1.1, .int .i64 x.1.2, .int .i64 x.2.1, .int .i64 x.2.2], undef, undef, undef, undef, undef, undef, undef], defers := [] })
    (fun x a' _ X Y row hs hg hr => by obtain ⟨Bx, e1, e2, e3⟩ := hs; exact ⟨Bx, e1, lies_own (β := Unit) Bx _ _ () X Y row e2 hg (fun r e => (hr r e).2), e3⟩)
    ?assign ?body ?done
  case assign =>
    rintro l pre x W K ⟨⟨⟨vv, M0, hr0, _⟩, A0⟩, hB1⟩ hK
    unfold segE
    have zA := A0.lt
    have zM : w.heap.size + 1 < W.heap.size := (Array.getElem?_eq_some_iff.1 (show W.heap[w.heap.size + 1]? = _ from M0)).1
    have hB3 : Below W.heap.size W (W.alloc (.cells #[.int .i64 x.1.1, .int .i64 x.1.2, .int .i64 x.2.1, .int .i64 x.2.2] 98)) := (by repeat (first | exact bw_refl _ | assumption | apply bw_drewN | apply bw_drew | apply bw_alloc | refine bw_set ?_ (by simp) _))
    gi_wp2
    exact hK _ _ ((KeepsOthers.alloc _ _).from _) (KT.of_below hB3 hB1.size) ⟨⟨⟨vv, M0.alloc _, hr0.alloc _, trivial⟩, A0.alloc _⟩, hB1.alloc hB1.size _⟩ ⟨W.heap.size, zM, Lies.new W _ _, rfl⟩
  case body =>
    rintro l pre x a' W hl2 ⟨⟨⟨vv, M0, hr0, _⟩, A0⟩, hB1⟩ ⟨Bx, hBx, bX, rfl⟩ hlt
    have c0 := M0.cell
    obtain ⟨cx0, cx1, cx2, cx3⟩ := bX.c4
    obtain ⟨a0, a1⟩ := blk_2 A0
    have hzW := hB1.size
    have hX := segFar_any x.1.1 x.1.2 x.2.1 x.2.2 p.1 p.2 ad W.drew (h0.below hB1.drew)
    obtain ⟨f, hf⟩ : ∃ f, farS p x = f := ⟨_, rfl⟩
    rw [show farV x.1.1 x.1.2 x.2.1 x.2.2 p.1 p.2 = f from hf] at hX
    have Hf : Hid (farS p x = f) := hf
    clear hf
    have hmax : pre.length + 1 ≤ maxLen := by simp [maxLen]; omega
    have zA := A0.lt
    have zBx := bX.lt
    have zM : w.heap.size + 1 < W.heap.size := (Array.getElem?_eq_some_iff.1 (show W.heap[w.heap.size + 1]? = _ from M0)).1
    gi_wp2
    refine wpIn_round_held (S := (fun w' : World => (w'.cell? ⟨Bx, 0, none⟩ = some (.int .i64 x.1.1) ∧ w'.cell? ⟨Bx, 1, none⟩ = some (.int .i64 x.1.2) ∧ w'.cell? ⟨Bx, 2, none⟩ = some (.int .i64 x.2.1) ∧ w'.cell? ⟨Bx, 3, none⟩ = some (.int .i64 x.2.2)) ∧ w'.cell? ⟨w.heap.size, 0, none⟩ = some (.int .i64 p.1) ∧ w'.cell? ⟨w.heap.size, 1, none⟩ = some (.int .i64 p.2))) hmx (by kernel_rfl) (by rintro ⟨_, _, h⟩; exact h) ?_
    have hS0 : (fun w' : World => (w'.cell? ⟨Bx, 0, none⟩ = some (.int .i64 x.1.1) ∧ w'.cell? ⟨Bx, 1, none⟩ = some (.int .i64 x.1.2) ∧ w'.cell? ⟨Bx, 2, none⟩ = some (.int .i64 x.2.1) ∧ w'.cell? ⟨Bx, 3, none⟩ = some (.int .i64 x.2.2)) ∧ w'.cell? ⟨w.heap.size, 0, none⟩ = some (.int .i64 p.1) ∧ w'.cell? ⟨w.heap.size, 1, none⟩ = some (.int .i64 p.2)) W.drew := ⟨⟨cx0, cx1, cx2, cx3⟩, a0, a1⟩
    refine wpAnyH_take (i := 1) (v := .agg #[.int .i64 x.1.1, .int .i64 x.1.2, .int .i64 x.2.1, .int .i64 x.2.2]) rfl (by kernel_rfl) (by kernel_rfl) (by kernel_rfl) (fun _ _ _ h => h) (Or.inl ⟨by rfl, by rintro w' ⟨⟨s1, s2, s3, s4⟩, s5, s6⟩; go_simp⟩) hS0 ?_
    refine wpAnyH_take (i := 2) (v := .agg #[.int .i64 p.1, .int .i64 p.2]) rfl (by kernel_rfl) (by kernel_rfl) (by kernel_rfl) (fun _ _ _ h => h) (Or.inl ⟨by rfl, by rintro w' ⟨⟨s1, s2, s3, s4⟩, s5, s6⟩; go_simp⟩) hS0 ?_
    refine wpAnyH_all (rs := [0, 3]) (by kernel_rfl) (by simp) ?_
    intro i hi
    have hi' : i = 0 ∨ i = 3 := by simpa using hi
    clear hi
    rcases hi' with rfl | rfl
    · skip
      refine YieldsIf.wpOp (S := fun w' => w' = W.drew) (v := vv) rfl (Or.inl ⟨by rfl, by rintro w' rfl; go_simp⟩) rfl ⟨hS0, ?_⟩
      refine wpAnyH_all (rs := [3]) (by kernel_rfl) (by simp) ?_
      intro i hi
      obtain rfl : i = 3 := by simpa using hi
      refine wpOp_now rfl (by rfl) ?_
      go_simp
      refine hX.mono ?_
      rintro e w3 ⟨rfl, J3⟩
      have M3 : Boxed w3 (w.heap.size + 1) 93 vv := (J3.block (w.heap.size + 1) zM).trans M0
      have hr3 : w3.ownsRow w.heap.size 32 2 vv pre.length (frCells (pre.map (farS p))) := (hr0.kept (w' := W.drew) (row := none) ⟨rfl, rfl, rfl, Nat.le_refl _, fun _ _ _ => rfl⟩ (Classical.em _)).kept (w' := w3) (row := none) ⟨J3.os, J3.tape, J3.output, J3.size, fun j hj _ => J3.block j hj⟩ (Classical.em _)
      have A3 : Lies w.heap.size #[.int .i64 p.1, .int .i64 p.2] 28 w3 := (J3.block w.heap.size zA).trans A0
      have b3 : Lies Bx #[.int .i64 x.1.1, .int .i64 x.1.2, .int .i64 x.2.1, .int .i64 x.2.2] 98 w3 := (J3.block Bx zBx).trans bX
      have z3 : W.heap.size ≤ w3.heap.size := J3.size
      have hS3 : (fun w' : World => (w'.cell? ⟨Bx, 0, none⟩ = some (.int .i64 x.1.1) ∧ w'.cell? ⟨Bx, 1, none⟩ = some (.int .i64 x.1.2) ∧ w'.cell? ⟨Bx, 2, none⟩ = some (.int .i64 x.2.1) ∧ w'.cell? ⟨Bx, 3, none⟩ = some (.int .i64 x.2.2)) ∧ w'.cell? ⟨w.heap.size, 0, none⟩ = some (.int .i64 p.1) ∧ w'.cell? ⟨w.heap.size, 1, none⟩ = some (.int .i64 p.2)) w3 := ⟨b3.c4, blk_2 A3⟩
      have cm3 := M3.cell
      refine ⟨hS3, ?_⟩
      refine wpAnyH_all (rs := [4]) (by kernel_rfl) (by simp) ?_
      intro i hi
      obtain rfl : i = 4 := by simpa using hi
      have B34 : Below w3.heap.size w3 (w3.alloc (.cells #[.int .i64 f.1, .int .i64 f.2] 32)) := (by repeat (first | exact bw_refl _ | assumption | apply bw_drewN | apply bw_drew | apply bw_alloc | refine bw_set ?_ (by simp) _))
      have hS4 : (fun w' : World => (w'.cell? ⟨Bx, 0, none⟩ = some (.int .i64 x.1.1) ∧ w'.cell? ⟨Bx, 1, none⟩ = some (.int .i64 x.1.2) ∧ w'.cell? ⟨Bx, 2, none⟩ = some (.int .i64 x.2.1) ∧ w'.cell? ⟨Bx, 3, none⟩ = some (.int .i64 x.2.2)) ∧ w'.cell? ⟨w.heap.size, 0, none⟩ = some (.int .i64 p.1) ∧ w'.cell? ⟨w.heap.size, 1, none⟩ = some (.int .i64 p.2)) (w3.alloc (.cells #[.int .i64 f.1, .int .i64 f.2] 32)) := ⟨(b3.below B34).c4, blk_2 (A3.below B34)⟩
      refine wpOp_now rfl (by rfl) ?_
      go_simp
      refine wpAnyH_all (rs := [5]) (by kernel_rfl) (by simp) ?_
      intro i hi
      obtain rfl : i = 5 := by simpa using hi
      refine wpOp_now rfl (by rfl) ?_
      refine wp_append_lies _ _ _ _ (by rfl) w.heap.size 32 i0 _ 2 16 Tryd.underlying93 hi0 hz0 hz1 hz2 rfl (by omega) _ pre.length _ (by rfl) (hr3.alloc _) ⟨w3.heap.size, 0, none⟩ 1 1 [.int .i64 f.1, .int .i64 f.2] (by rfl) (by rfl) (World.news_of_block (cs := #[.int .i64 f.1, .int .i64 f.2]) (t := 32) (fr := (0, 0)) (heap_alloc_new w3 _)) (by simp [Value.oneCell']) (by omega) hmax (by omega) (by simp; omega) (w3.heap.size + 1) (by simp) ?_
      intro gg cg w5 hown5 hgr5 hat5 hlt5
      obtain ⟨hv1, hv2, hr2, hk2, hb2⟩ := M3.appended (by decide) hr3 (by omega) (by omega) hown5 hgr5
      have hne : ∀ (k : Nat) (cs : Array Value) (t : TypeId), t ≠ 32 → w3.heap[k]? = some (.cells cs t (0, 0)) → w5.heap[k]? = some (.cells cs t (0, 0)) := fun k cs t ht h => by
        refine (hgr5.block k (by have := (Array.getElem?_eq_some_iff.1 h).1; simp; omega) (fun e => ?_)).trans ((B34.block k (Array.getElem?_eq_some_iff.1 h).1).trans h)
        rcases hr3.2 with ⟨e1, _⟩ | ⟨g0, c0', cur0, e1, _, hg0, _⟩
        · subst e1; cases e
        · subst e1
          have e' : k = g0 := Option.some.inj e
          rw [e', hg0] at h; cases h; exact ht rfl
      have A5 : Lies w.heap.size #[.int .i64 p.1, .int .i64 p.2] 28 w5 := hne _ _ _ (by decide) A3
      have b5 : Lies Bx #[.int .i64 x.1.1, .int .i64 x.1.2, .int .i64 x.2.1, .int .i64 x.2.2] 98 w5 := hne _ _ _ (by decide) b3
      have hS5 : (fun w' : World => (w'.cell? ⟨Bx, 0, none⟩ = some (.int .i64 x.1.1) ∧ w'.cell? ⟨Bx, 1, none⟩ = some (.int .i64 x.1.2) ∧ w'.cell? ⟨Bx, 2, none⟩ = some (.int .i64 x.2.1) ∧ w'.cell? ⟨Bx, 3, none⟩ = some (.int .i64 x.2.2)) ∧ w'.cell? ⟨w.heap.size, 0, none⟩ = some (.int .i64 p.1) ∧ w'.cell? ⟨w.heap.size, 1, none⟩ = some (.int .i64 p.2)) w5 := ⟨b5.c4, blk_2 A5⟩
      refine ⟨hS5, ?_⟩
      simp only [Act.put, List.setIfInBounds_toArray]
      refine wpAnyH_all (rs := [6]) (by kernel_rfl) (by simp) ?_
      intro i hi
      obtain rfl : i = 6 := by simpa using hi
      have hc1 := hv1.cell
      have hf1 := hv1.frozen
      refine wpOp_now rfl (by rfl) ?_
      go_simp
      refine wpAnyH_done (by kernel_rfl) ?_ _
      have BWX : Below w.heap.size W (w5.setCell ⟨w.heap.size + 1, 0, none⟩ (.slice (some ⟨gg, 0, none⟩) (pre.length + 1) cg)) := ((Below.refl _ W).drew.trans (J3.mono hzW)).trans hb2
      refine ⟨(((KeepsOthers.drew _).trans (KeepsOthers.of_below J3)).trans hk2).from _, ⟨BWX, fun k cs t ht h => ?_⟩, ⟨⟨_, hv2, ?_, trivial⟩, ?_⟩, hB1.trans BWX⟩
      · have h3 : w3.heap[k]? = some (.cells cs t (0, 0)) := (J3.block k (Array.getElem?_eq_some_iff.1 h).1).trans h
        refine (Below.heap_setCell _ _ _ k (fun e => ?_)).trans (hne k cs t (by rcases ht with rfl | rfl <;> decide) h3)
        have e' : k = w.heap.size + 1 := e
        rw [e', show W.heap[w.heap.size + 1]? = _ from M0] at h
        rcases ht with rfl | rfl <;> simp at h
      · rw [List.map_append, List.map_cons, List.map_nil, Hf.out, frCells_snoc, List.length_append, List.length_singleton]; exact hr2
      · exact (Below.heap_setCell _ _ _ w.heap.size (fun e => by have e' : w.heap.size = w.heap.size + 1 := e; omega)).trans A5
    · skip
      refine wpOp_now rfl (by rfl) ?_
      go_simp
      refine hX.mono ?_
      rintro e w3 ⟨rfl, J3⟩
      have M3 : Boxed w3 (w.heap.size + 1) 93 vv := (J3.block (w.heap.size + 1) zM).trans M0
      have hr3 : w3.ownsRow w.heap.size 32 2 vv pre.length (frCells (pre.map (farS p))) := (hr0.kept (w' := W.drew) (row := none) ⟨rfl, rfl, rfl, Nat.le_refl _, fun _ _ _ => rfl⟩ (Classical.em _)).kept (w' := w3) (row := none) ⟨J3.os, J3.tape, J3.output, J3.size, fun j hj _ => J3.block j hj⟩ (Classical.em _)
      have A3 : Lies w.heap.size #[.int .i64 p.1, .int .i64 p.2] 28 w3 := (J3.block w.heap.size zA).trans A0
      have b3 : Lies Bx #[.int .i64 x.1.1, .int .i64 x.1.2, .int .i64 x.2.1, .int .i64 x.2.2] 98 w3 := (J3.block Bx zBx).trans bX
      have z3 : W.heap.size ≤ w3.heap.size := J3.size
      have hS3 : (fun w' : World => (w'.cell? ⟨Bx, 0, none⟩ = some (.int .i64 x.1.1) ∧ w'.cell? ⟨Bx, 1, none⟩ = some (.int .i64 x.1.2) ∧ w'.cell? ⟨Bx, 2, none⟩ = some (.int .i64 x.2.1) ∧ w'.cell? ⟨Bx, 3, none⟩ = some (.int .i64 x.2.2)) ∧ w'.cell? ⟨w.heap.size, 0, none⟩ = some (.int .i64 p.1) ∧ w'.cell? ⟨w.heap.size, 1, none⟩ = some (.int .i64 p.2)) w3 := ⟨b3.c4, blk_2 A3⟩
      have cm3 := M3.cell
      refine ⟨hS3, ?_⟩
      refine wpAnyH_all (rs := [0, 4]) (by kernel_rfl) (by simp) ?_
      intro i hi
      have hi' : i = 0 ∨ i = 4 := by simpa using hi
      clear hi
      rcases hi' with rfl | rfl
      · skip
        refine YieldsIf.wpOp (S := fun w' => w' = w3) (v := vv) rfl (Or.inl ⟨by rfl, by rintro w' rfl; go_simp⟩) rfl ⟨hS3, ?_⟩
        refine wpAnyH_all (rs := [4]) (by kernel_rfl) (by simp) ?_
        intro i hi
        obtain rfl : i = 4 := by simpa using hi
        have B34 : Below w3.heap.size w3 (w3.alloc (.cells #[.int .i64 f.1, .int .i64 f.2] 32)) := (by repeat (first | exact bw_refl _ | assumption | apply bw_drewN | apply bw_drew | apply bw_alloc | refine bw_set ?_ (by simp) _))
        have hS4 : (fun w' : World => (w'.cell? ⟨Bx, 0, none⟩ = some (.int .i64 x.1.1) ∧ w'.cell? ⟨Bx, 1, none⟩ = some (.int .i64 x.1.2) ∧ w'.cell? ⟨Bx, 2, none⟩ = some (.int .i64 x.2.1) ∧ w'.cell? ⟨Bx, 3, none⟩ = some (.int .i64 x.2.2)) ∧ w'.cell? ⟨w.heap.size, 0, none⟩ = some (.int .i64 p.1) ∧ w'.cell? ⟨w.heap.size, 1, none⟩ = some (.int .i64 p.2)) (w3.alloc (.cells #[.int .i64 f.1, .int .i64 f.2] 32)) := ⟨(b3.below B34).c4, blk_2 (A3.below B34)⟩
        refine wpOp_now rfl (by rfl) ?_
        go_simp
        refine wpAnyH_all (rs := [5]) (by kernel_rfl) (by simp) ?_
        intro i hi
        obtain rfl : i = 5 := by simpa using hi
        refine wpOp_now rfl (by rfl) ?_
        refine wp_append_lies _ _ _ _ (by rfl) w.heap.size 32 i0 _ 2 16 Tryd.underlying93 hi0 hz0 hz1 hz2 rfl (by omega) _ pre.length _ (by rfl) (hr3.alloc _) ⟨w3.heap.size, 0, none⟩ 1 1 [.int .i64 f.1, .int .i64 f.2] (by rfl) (by rfl) (World.news_of_block (cs := #[.int .i64 f.1, .int .i64 f.2]) (t := 32) (fr := (0, 0)) (heap_alloc_new w3 _)) (by simp [Value.oneCell']) (by omega) hmax (by omega) (by simp; omega) (w3.heap.size + 1) (by simp) ?_
        intro gg cg w5 hown5 hgr5 hat5 hlt5
        obtain ⟨hv1, hv2, hr2, hk2, hb2⟩ := M3.appended (by decide) hr3 (by omega) (by omega) hown5 hgr5
        have hne : ∀ (k : Nat) (cs : Array Value) (t : TypeId), t ≠ 32 → w3.heap[k]? = some (.cells cs t (0, 0)) → w5.heap[k]? = some (.cells cs t (0, 0)) := fun k cs t ht h => by
          refine (hgr5.block k (by have := (Array.getElem?_eq_some_iff.1 h).1; simp; omega) (fun e => ?_)).trans ((B34.block k (Array.getElem?_eq_some_iff.1 h).1).trans h)
          rcases hr3.2 with ⟨e1, _⟩ | ⟨g0, c0', cur0, e1, _, hg0, _⟩
          · subst e1; cases e
          · subst e1
            have e' : k = g0 := Option.some.inj e
            rw [e', hg0] at h; cases h; exact ht rfl
        have A5 : Lies w.heap.size #[.int .i64 p.1, .int .i64 p.2] 28 w5 := hne _ _ _ (by decide) A3
        have b5 : Lies Bx #[.int .i64 x.1.1, .int .i64 x.1.2, .int .i64 x.2.1, .int .i64 x.2.2] 98 w5 := hne _ _ _ (by decide) b3
        have hS5 : (fun w' : World => (w'.cell? ⟨Bx, 0, none⟩ = some (.int .i64 x.1.1) ∧ w'.cell? ⟨Bx, 1, none⟩ = some (.int .i64 x.1.2) ∧ w'.cell? ⟨Bx, 2, none⟩ = some (.int .i64 x.2.1) ∧ w'.cell? ⟨Bx, 3, none⟩ = some (.int .i64 x.2.2)) ∧ w'.cell? ⟨w.heap.size, 0, none⟩ = some (.int .i64 p.1) ∧ w'.cell? ⟨w.heap.size, 1, none⟩ = some (.int .i64 p.2)) w5 := ⟨b5.c4, blk_2 A5⟩
        refine ⟨hS5, ?_⟩
        simp only [Act.put, List.setIfInBounds_toArray]
        refine wpAnyH_all (rs := [6]) (by kernel_rfl) (by simp) ?_
        intro i hi
        obtain rfl : i = 6 := by simpa using hi
        have hc1 := hv1.cell
        have hf1 := hv1.frozen
        refine wpOp_now rfl (by rfl) ?_
        go_simp
        refine wpAnyH_done (by kernel_rfl) ?_ _
        have BWX : Below w.heap.size W (w5.setCell ⟨w.heap.size + 1, 0, none⟩ (.slice (some ⟨gg, 0, none⟩) (pre.length + 1) cg)) := ((Below.refl _ W).drew.trans (J3.mono hzW)).trans hb2
        refine ⟨(((KeepsOthers.drew _).trans (KeepsOthers.of_below J3)).trans hk2).from _, ⟨BWX, fun k cs t ht h => ?_⟩, ⟨⟨_, hv2, ?_, trivial⟩, ?_⟩, hB1.trans BWX⟩
        · have h3 : w3.heap[k]? = some (.cells cs t (0, 0)) := (J3.block k (Array.getElem?_eq_some_iff.1 h).1).trans h
          refine (Below.heap_setCell _ _ _ k (fun e => ?_)).trans (hne k cs t (by rcases ht with rfl | rfl <;> decide) h3)
          have e' : k = w.heap.size + 1 := e
          rw [e', show W.heap[w.heap.size + 1]? = _ from M0] at h
          rcases ht with rfl | rfl <;> simp at h
        · rw [List.map_append, List.map_cons, List.map_nil, Hf.out, frCells_snoc, List.length_append, List.length_singleton]; exact hr2
        · exact (Below.heap_setCell _ _ _ w.heap.size (fun e => by have e' : w.heap.size = w.heap.size + 1 := e; omega)).trans A5
      · skip
        have B34 : Below w3.heap.size w3 (w3.alloc (.cells #[.int .i64 f.1, .int .i64 f.2] 32)) := (by repeat (first | exact bw_refl _ | assumption | apply bw_drewN | apply bw_drew | apply bw_alloc | refine bw_set ?_ (by simp) _))
        have hS4 : (fun w' : World => (w'.cell? ⟨Bx, 0, none⟩ = some (.int .i64 x.1.1) ∧ w'.cell? ⟨Bx, 1, none⟩ = some (.int .i64 x.1.2) ∧ w'.cell? ⟨Bx, 2, none⟩ = some (.int .i64 x.2.1) ∧ w'.cell? ⟨Bx, 3, none⟩ = some (.int .i64 x.2.2)) ∧ w'.cell? ⟨w.heap.size, 0, none⟩ = some (.int .i64 p.1) ∧ w'.cell? ⟨w.heap.size, 1, none⟩ = some (.int .i64 p.2)) (w3.alloc (.cells #[.int .i64 f.1, .int .i64 f.2] 32)) := ⟨(b3.below B34).c4, blk_2 (A3.below B34)⟩
        refine wpOp_now rfl (by rfl) ?_
        go_simp
        have cm4 := (M3.alloc (.cells #[.int .i64 f.1, .int .i64 f.2] 32)).cell
        refine wpAnyH_all (rs := [0]) (by kernel_rfl) (by simp) ?_
        intro i hi
        obtain rfl : i = 0 := by simpa using hi
        refine YieldsIf.wpOp (S := fun w' => w' = w3.alloc (.cells #[.int .i64 f.1, .int .i64 f.2] 32)) (v := vv) rfl (Or.inl ⟨by rfl, by rintro w' rfl; go_simp⟩) rfl ⟨hS4, ?_⟩
        refine wpAnyH_all (rs := [5]) (by kernel_rfl) (by simp) ?_
        intro i hi
        obtain rfl : i = 5 := by simpa using hi
        refine wpOp_now rfl (by rfl) ?_
        refine wp_append_lies _ _ _ _ (by rfl) w.heap.size 32 i0 _ 2 16 Tryd.underlying93 hi0 hz0 hz1 hz2 rfl (by omega) _ pre.length _ (by rfl) (hr3.alloc _) ⟨w3.heap.size, 0, none⟩ 1 1 [.int .i64 f.1, .int .i64 f.2] (by rfl) (by rfl) (World.news_of_block (cs := #[.int .i64 f.1, .int .i64 f.2]) (t := 32) (fr := (0, 0)) (heap_alloc_new w3 _)) (by simp [Value.oneCell']) (by omega) hmax (by omega) (by simp; omega) (w3.heap.size + 1) (by simp) ?_
        intro gg cg w5 hown5 hgr5 hat5 hlt5
        obtain ⟨hv1, hv2, hr2, hk2, hb2⟩ := M3.appended (by decide) hr3 (by omega) (by omega) hown5 hgr5
        have hne : ∀ (k : Nat) (cs : Array Value) (t : TypeId), t ≠ 32 → w3.heap[k]? = some (.cells cs t (0, 0)) → w5.heap[k]? = some (.cells cs t (0, 0)) := fun k cs t ht h => by
          refine (hgr5.block k (by have := (Array.getElem?_eq_some_iff.1 h).1; simp; omega) (fun e => ?_)).trans ((B34.block k (Array.getElem?_eq_some_iff.1 h).1).trans h)
          rcases hr3.2 with ⟨e1, _⟩ | ⟨g0, c0', cur0, e1, _, hg0, _⟩
          · subst e1; cases e
          · subst e1
            have e' : k = g0 := Option.some.inj e
            rw [e', hg0] at h; cases h; exact ht rfl
        have A5 : Lies w.heap.size #[.int .i64 p.1, .int .i64 p.2] 28 w5 := hne _ _ _ (by decide) A3
        have b5 : Lies Bx #[.int .i64 x.1.1, .int .i64 x.1.2, .int .i64 x.2.1, .int .i64 x.2.2] 98 w5 := hne _ _ _ (by decide) b3
        have hS5 : (fun w' : World => (w'.cell? ⟨Bx, 0, none⟩ = some (.int .i64 x.1.1) ∧ w'.cell? ⟨Bx, 1, none⟩ = some (.int .i64 x.1.2) ∧ w'.cell? ⟨Bx, 2, none⟩ = some (.int .i64 x.2.1) ∧ w'.cell? ⟨Bx, 3, none⟩ = some (.int .i64 x.2.2)) ∧ w'.cell? ⟨w.heap.size, 0, none⟩ = some (.int .i64 p.1) ∧ w'.cell? ⟨w.heap.size, 1, none⟩ = some (.int .i64 p.2)) w5 := ⟨b5.c4, blk_2 A5⟩
        refine ⟨hS5, ?_⟩
        simp only [Act.put, List.setIfInBounds_toArray]
        refine wpAnyH_all (rs := [6]) (by kernel_rfl) (by simp) ?_
        intro i hi
        obtain rfl : i = 6 := by simpa using hi
        have hc1 := hv1.cell
        have hf1 := hv1.frozen
        refine wpOp_now rfl (by rfl) ?_
        go_simp
        refine wpAnyH_done (by kernel_rfl) ?_ _
        have BWX : Below w.heap.size W (w5.setCell ⟨w.heap.size + 1, 0, none⟩ (.slice (some ⟨gg, 0, none⟩) (pre.length + 1) cg)) := ((Below.refl _ W).drew.trans (J3.mono hzW)).trans hb2
        refine ⟨(((KeepsOthers.drew _).trans (KeepsOthers.of_below J3)).trans hk2).from _, ⟨BWX, fun k cs t ht h => ?_⟩, ⟨⟨_, hv2, ?_, trivial⟩, ?_⟩, hB1.trans BWX⟩
        · have h3 : w3.heap[k]? = some (.cells cs t (0, 0)) := (J3.block k (Array.getElem?_eq_some_iff.1 h).1).trans h
          refine (Below.heap_setCell _ _ _ k (fun e => ?_)).trans (hne k cs t (by rcases ht with rfl | rfl <;> decide) h3)
          have e' : k = w.heap.size + 1 := e
          rw [e', show W.heap[w.heap.size + 1]? = _ from M0] at h
          rcases ht with rfl | rfl <;> simp at h
        · rw [List.map_append, List.map_cons, List.map_nil, Hf.out, frCells_snoc, List.length_append, List.length_singleton]; exact hr2
        · exact (Below.heap_setCell _ _ _ w.heap.size (fun e => by have e' : w.heap.size = w.heap.size + 1 := e; omega)).trans A5
  case done =>
    rintro D W hD ⟨⟨⟨vv, M0, hr0, _⟩, A0⟩, hB1⟩ hK
    have cR := M0.cell
    gi_wp2
    refine ⟨by simp, .inl ⟨_, _, rfl, run_takeDeferred hK, ?_⟩⟩
    exact ⟨vv, by simp [results, Tryd.results45, go_sem], vv, rfl, ownsRow_putObj hr0 _ hK rfl, hB1.trans (belowK_b (w := w) (Nat.le_refl _) _ D _ _ (by omega) hK rfl rfl)⟩
end Go.Proofs.YtlikfcfblkckaaaDoor
namespace Go.Proofs.YtlikfcfblkckaaaDoor
open Go.RowKit Go.Sort

/-- One number divided by another one, within the limits. -/
theorem l1Of_any (n d : Int) (w : World) (h1 : 0 ≤ n) (h2 : n ≤ 99999) (h3 : 1 ≤ d) (h4 : d ≤ 99999) :
    Calls Tryd.prog 67 #[.int .i64 n, .int .i64 d] w fun e w' => e = .returned (.agg #[.int .i64 (n / G n d), .int .i64 (d / G n d)]) ∧ Below w.heap.size w w' := by
  have hg := G_pos n d h3
  have hz : (G n d == 0) = false := by simp; omega
  go_enter Tryd.func67, Tryd.ntmps67
  go_wp2_with (go_at_call 81; refine (gcd_spec _ _ _ h1 (by omega) (by omega) (by omega)).mono ?_; rintro e w' ⟨rfl, m, rfl⟩)
  go_region
  all_goals go_wp2
  all_goals exact bodyPost_ret (v := .agg #[.int .i64 (n / G n d), .int .i64 (d / G n d)]) (by simp [results, Tryd.results67, go_sem]) rfl ⟨rfl, by repeat (first | exact bw_refl _ | apply bw_drewN | apply bw_drew | apply bw_alloc | refine bw_set ?_ (by simp) _)⟩
theorem l1Cmp_any (n d m b : Int) (w : World) (h : okB n d = true) (h' : okB m b = true) :
    Calls Tryd.prog 68 #[.agg #[.int .i64 n, .int .i64 d], .agg #[.int .i64 m, .int .i64 b]] w fun e w' => e = .returned (.int .i64 (cmpI (n * b) (m * d))) ∧ Below w.heap.size w w' := by
  have k1 := (okB_iff n d).1 h
  have k2 := (okB_iff m b).1 h'
  obtain ⟨p1, p2⟩ := mul_bd n b k1.1 k1.2.1 (by omega) k2.2.2.2.1
  obtain ⟨q1, q2⟩ := mul_bd m d k2.1 k2.2.1 (by omega) k1.2.2.2.1
  clear h h' k1 k2
  have hc : n * b < m * d ∨ (¬ n * b < m * d ∧ m * d < n * b) ∨ (¬ n * b < m * d ∧ ¬ m * d < n * b) := by omega
  rcases hc with h1 | ⟨h1, h2⟩ | ⟨h1, h2⟩
  · have e : Hid (cmpI (n * b) (m * d) = -1) := by unfold cmpI; rw [if_pos h1]; rfl
    go_enter Tryd.func68, Tryd.ntmps68
    go_wp2
    go_ret
    exact ⟨ret_int e.out.symm, by repeat (first | exact bw_refl _ | apply bw_drewN | apply bw_drew | apply bw_alloc | refine bw_set ?_ (by simp) _)⟩
  · have e : Hid (cmpI (n * b) (m * d) = 1) := by unfold cmpI; rw [if_neg h1, if_pos h2]; rfl
    go_enter Tryd.func68, Tryd.ntmps68
    go_wp2
    go_ret
    exact ⟨ret_int e.out.symm, by repeat (first | exact bw_refl _ | apply bw_drewN | apply bw_drew | apply bw_alloc | refine bw_set ?_ (by simp) _)⟩
  · have e : Hid (cmpI (n * b) (m * d) = 0) := by unfold cmpI; rw [if_neg h1, if_neg h2]; rfl
    go_enter Tryd.func68, Tryd.ntmps68
    go_wp2
    go_ret
    exact ⟨ret_int e.out.symm, by repeat (first | exact bw_refl _ | apply bw_drewN | apply bw_drew | apply bw_alloc | refine bw_set ?_ (by simp) _)⟩
theorem l1Of_of (n d : Int) (w : World) (h : inB n d = true) :
    Calls Tryd.prog 67 #[.int .i64 n, .int .i64 d] w fun e w' => e = .returned (.agg #[.int .i64 (ofN n d), .int .i64 (ofD n d)]) ∧ Below w.heap.size w w' := by
  have h' := (inB_iff n d).1 h
  unfold ofN ofD
  rw [h]
  exact l1Of_any n d w h'.1 h'.2.1 h'.2.2.1 h'.2.2.2
set_option maxHeartbeats 1000000 in
theorem sFar_ok (ax ay bx b_y px py : Int) (w : World) (gs : sgB ax ay bx b_y = true) (gp : ptB px py = true) :
    Calls Tryd.prog 47 #[.agg #[.int .i64 ax, .int .i64 ay, .int .i64 bx, .int .i64 b_y], .agg #[.int .i64 px, .int .i64 py]] w fun e w' => e = .returned (.agg #[.int .i64 (far ax ay bx b_y px py).1, .int .i64 (far ax ay bx b_y px py).2]) ∧ Below w.heap.size w w' := by
  obtain ⟨pa, pb, _⟩ := sg_parts gs
  have hb := dt_back ax ay bx b_y px py
  unfold far
  by_cases h : dt ax ay bx b_y px py ≤ 0
  · rw [if_pos h]
    clear hb
    go_enter Tryd.func47, Tryd.ntmps47
    go_wp2_with fail
    refine (sDot_any _ _ _ _ _ _ _ pa pb gp).mono ?_
    rintro e w1 ⟨rfl, J⟩
    obtain ⟨hc, hf⟩ := bcell J
    go_wp2_with fail
    refine (sDot_any _ _ _ _ _ _ _ pa pb pb).mono ?_
    rintro e w1 ⟨rfl, J2⟩
    replace J := bw_trans J J2
    clear hc hf J2
    obtain ⟨hc, hf⟩ := bcell J
    go_wp2_with fail
    refine (sDot_any _ _ _ _ _ _ _ pa gp gp).mono ?_
    rintro e w1 ⟨rfl, J2⟩
    replace J := bw_trans J J2
    clear hc hf J2
    obtain ⟨hc, hf⟩ := bcell J
    have HB : Hid (Below w.heap.size w w1) := bw_trans (by repeat (first | exact bw_refl _ | assumption | apply bw_drewN | apply bw_drew | apply bw_alloc | refine bw_set ?_ (by simp) _)) J
    have hz := J.size
    simp at hz
    have hz' : w.heap.size + 2 < w1.heap.size := by omega
    clear hz J
    go_wp2_with fail
    exact bodyPost_ret (v := .agg #[.int .i64 (dt ax ay px py px py), .int .i64 1]) (by simp [results, Tryd.results47, go_sem, hc]) rfl ⟨rfl, by repeat (first | with_reducible exact HB.out | with_reducible refine bw_set ?_ (by dsimp only; omega) _)⟩
  · rw [if_neg h]
    have h' : 0 < dt ax ay bx b_y px py := by omega
    by_cases h2 : dt bx b_y ax ay px py ≤ 0
    · rw [if_pos h2]
      have h3 : dt ax ay bx b_y bx b_y ≤ dt ax ay bx b_y px py := by omega
      clear hb h h2
      go_enter Tryd.func47, Tryd.ntmps47
      go_wp2_with fail
      refine (sDot_any _ _ _ _ _ _ _ pa pb gp).mono ?_
      rintro e w1 ⟨rfl, J⟩
      obtain ⟨hc, hf⟩ := bcell J
      go_wp2_with fail
      refine (sDot_any _ _ _ _ _ _ _ pa pb pb).mono ?_
      rintro e w1 ⟨rfl, J2⟩
      replace J := bw_trans J J2
      clear hc hf J2
      obtain ⟨hc, hf⟩ := bcell J
      go_wp2_with fail
      refine (sDot_any _ _ _ _ _ _ _ pb gp gp).mono ?_
      rintro e w1 ⟨rfl, J2⟩
      replace J := bw_trans J J2
      clear hc hf J2
      obtain ⟨hc, hf⟩ := bcell J
      have HB : Hid (Below w.heap.size w w1) := bw_trans (by repeat (first | exact bw_refl _ | assumption | apply bw_drewN | apply bw_drew | apply bw_alloc | refine bw_set ?_ (by simp) _)) J
      have hz := J.size
      simp at hz
      have hz' : w.heap.size + 2 < w1.heap.size := by omega
      clear hz J
      go_wp2_with fail
      exact bodyPost_ret (v := .agg #[.int .i64 (dt bx b_y px py px py), .int .i64 1]) (by simp [results, Tryd.results47, go_sem, hc]) rfl ⟨rfl, by repeat (first | with_reducible exact HB.out | with_reducible refine bw_set ?_ (by dsimp only; omega) _)⟩
    · rw [if_neg h2]
      have h3 : dt ax ay bx b_y px py < dt ax ay bx b_y bx b_y := by omega
      have d1 := crs_bd pa pb gp
      have d2 := prod_bd2 d1.1 d1.2 d1.1 d1.2
      have hi := line_in gs gp
      clear hb h h2
      go_enter Tryd.func47, Tryd.ntmps47
      go_wp2_with fail
      refine (sDot_any _ _ _ _ _ _ _ pa pb gp).mono ?_
      rintro e w1 ⟨rfl, J⟩
      obtain ⟨hc, hf⟩ := bcell J
      go_wp2_with fail
      refine (sDot_any _ _ _ _ _ _ _ pa pb pb).mono ?_
      rintro e w1 ⟨rfl, J2⟩
      replace J := bw_trans J J2
      clear hc hf J2
      obtain ⟨hc, hf⟩ := bcell J
      go_wp2_with fail
      refine (sCross_any _ _ _ _ _ _ _ pa pb gp).mono ?_
      rintro e w1 ⟨rfl, J2⟩
      replace J := bw_trans J J2
      clear hc hf J2
      obtain ⟨hc, hf⟩ := bcell J
      go_wp2_with fail
      refine (l1Of_of _ _ _ hi).mono ?_
      rintro e w1 ⟨rfl, J2⟩
      replace J := bw_trans J J2
      clear hc hf J2
      obtain ⟨hc, hf⟩ := bcell J
      have HB : Hid (Below w.heap.size w w1) := bw_trans (by repeat (first | exact bw_refl _ | assumption | apply bw_drewN | apply bw_drew | apply bw_alloc | refine bw_set ?_ (by simp) _)) J
      have hz := J.size
      simp at hz
      have hz' : w.heap.size + 2 < w1.heap.size := by omega
      clear hz J
      go_wp2_with fail
      exact bodyPost_ret (v := .agg #[.int .i64 (ofN (crs ax ay bx b_y px py * crs ax ay bx b_y px py) (dt ax ay bx b_y bx b_y)), .int .i64 (ofD (crs ax ay bx b_y px py * crs ax ay bx b_y px py) (dt ax ay bx b_y bx b_y))]) (by simp [results, Tryd.results47, go_sem, hc]) rfl ⟨rfl, by repeat (first | with_reducible exact HB.out | with_reducible refine bw_set ?_ (by dsimp only; omega) _)⟩
end Go.Proofs.YtlikfcfblkckaaaDoor
namespace Go.Proofs.YtlikfcfblkckaaaDoor
open Go.RowKit Go.Sort

theorem cmpI_lt (x y : Int) (h : x < y) : cmpI x y = -1 := by unfold cmpI; rw [if_pos h]
theorem cmpI_ge (x y : Int) (h : ¬ x < y) : ¬ cmpI x y < 0 := by unfold cmpI; rw [if_neg h]; split <;> omega
set_option maxHeartbeats 1000000 in
theorem sLeast_ok (f g : Int × Int) (w : World) (hf : OkF f) (hg : OkF g) :
    Calls Tryd.prog 48 #[.agg #[.int .i64 f.1, .int .i64 f.2], .agg #[.int .i64 g.1, .int .i64 g.2]] w fun e w' => e = .returned (.agg #[.int .i64 (mn f g).1, .int .i64 (mn f g).2]) ∧ Below w.heap.size w w' := by
  unfold OkF at hf hg
  obtain ⟨n, d⟩ := f
  obtain ⟨m, b⟩ := g
  unfold mn
  by_cases h : m * d < n * b
  · rw [if_pos h]
    have e := cmpI_lt _ _ h
    clear h
    go_enter Tryd.func48, Tryd.ntmps48
    go_wp2_with fail
    refine (l1Cmp_any _ _ _ _ _ hg hf).mono ?_
    rw [e]
    rintro e w1 ⟨rfl, J⟩
    obtain ⟨hc, hf⟩ := bcell J
    have HB : Hid (Below w.heap.size w w1) := bw_trans (by repeat (first | exact bw_refl _ | assumption | apply bw_drewN | apply bw_drew | apply bw_alloc | refine bw_set ?_ (by simp) _)) J
    have hz := J.size
    simp at hz
    have hz' : w.heap.size + 2 < w1.heap.size := by omega
    clear hz J
    go_wp2_with fail
    exact bodyPost_ret (v := .agg #[.int .i64 m, .int .i64 b]) (by simp [results, Tryd.results48, go_sem, hc]) rfl ⟨rfl, by repeat (first | with_reducible exact HB.out | with_reducible refine bw_set ?_ (by dsimp only; omega) _)⟩
  · rw [if_neg h]
    have e := cmpI_ge _ _ h
    clear h
    generalize hx : cmpI (m * d) (n * b) = x at e
    have hx' : Hid (cmpI (m * d) (n * b) = x) := hx
    clear hx
    have e' : 0 ≤ x := by omega
    clear e
    go_enter Tryd.func48, Tryd.ntmps48
    go_wp2_with fail
    refine (l1Cmp_any _ _ _ _ _ hg hf).mono ?_
    rw [hx'.out]
    rintro e w1 ⟨rfl, J⟩
    obtain ⟨hc, hf⟩ := bcell J
    have HB : Hid (Below w.heap.size w w1) := bw_trans (by repeat (first | exact bw_refl _ | assumption | apply bw_drewN | apply bw_drew | apply bw_alloc | refine bw_set ?_ (by simp) _)) J
    have hz := J.size
    simp at hz
    have hz' : w.heap.size + 2 < w1.heap.size := by omega
    clear hz J
    go_wp2_with fail
    exact bodyPost_ret (v := .agg #[.int .i64 n, .int .i64 d]) (by simp [results, Tryd.results48, go_sem, hc]) rfl ⟨rfl, by repeat (first | with_reducible exact HB.out | with_reducible refine bw_set ?_ (by dsimp only; omega) _)⟩
/-- The block of three fractions. -/
def Three (w : World) (b : Nat) (f g h : Int × Int) : Prop := w.heap[b]? = some (.cells #[.int .i64 f.1, .int .i64 f.2, .int .i64 g.1, .int .i64 g.2, .int .i64 h.1, .int .i64 h.2] 32 (0, 0))
theorem setO2 {w : World} {b b' i j : Nat} {v u : Value} {o : Obj} (h : w.heap[b']? = some o) (hne : b' ≠ b) : ((w.setCell ⟨b, i, none⟩ v).setCell ⟨b, j, none⟩ u).heap[b']? = some o := by
  rw [Below.heap_setCell _ _ _ _ (by show b' ≠ b; exact hne), Below.heap_setCell _ _ _ _ (by show b' ≠ b; exact hne)]; exact h
theorem blk_6 {w : World} {b : Nat} {x0 x1 x2 x3 x4 x5 : Value} {t : TypeId} (h : w.heap[b]? = some (.cells #[x0, x1, x2, x3, x4, x5] t (0, 0))) :
    w.cell? ⟨b, 0, none⟩ = some x0 ∧ w.cell? ⟨b, 1, none⟩ = some x1 ∧ w.cell? ⟨b, 2, none⟩ = some x2 ∧ w.cell? ⟨b, 3, none⟩ = some x3 ∧ w.cell? ⟨b, 4, none⟩ = some x4 ∧ w.cell? ⟨b, 5, none⟩ = some x5 := by
  refine ⟨?_, ?_, ?_, ?_, ?_, ?_⟩ <;> simp [World.cell?, h]
set_option maxHeartbeats 2000000 in
theorem least_ok (f0 f1 f2 f3 : Int × Int) (bs : Nat) (ad : Addr) (w : World) (h0 : Sent ad w) (o0 : OkF f0) (o1 : OkF f1) (o2 : OkF f2) (o3 : OkF f3) (TH : Three w bs f1 f2 f3) :
    Calls Tryd.prog 46 #[.agg #[.int .i64 f0.1, .int .i64 f0.2], .slice (some ⟨bs, 0, none⟩) 3 3] w fun e w' => e = .returned (.agg #[.int .i64 (mnA f0 f1 f2 f3).1, .int .i64 (mnA f0 f1 f2 f3).2]) ∧ Below w.heap.size w w' := by
  unfold Three at TH
  have zb := blk_lt TH
  obtain ⟨W, hW, H, _, RB, LB⟩ := boxes3 w (.cells #[.int .i64 f0.1, .int .i64 f0.2] 32) (.cells #[.int .i64 0, .int .i64 0] 32) (.cells #[.int .i64 f0.1, .int .i64 f0.2] 32)
  replace TH := keep H TH
  have nb : bs ≠ w.heap.size + 1 ∧ bs ≠ w.heap.size + 2 := by omega
  obtain ⟨nb1, nb2⟩ := nb
  go_enter Tryd.func46, Tryd.ntmps46
  go_upto_region 3 with fail
  rw [← hW]
  clear hW
  refine wp_loop_rounds 4 ?_
  rw [rounds_succ]
  obtain ⟨t0, t1, t2, t3, t4, t5⟩ := blk_6 TH
  obtain ⟨l0, l1⟩ := blk_2 LB
  have zl := blk_lt LB
  have zt := blk_lt TH
  have hs1 := h0.below H
  by_cases c1 : f1.1 * f0.2 < f0.1 * f1.2
  · have m1 : mn f0 f1 = f1 := if_pos c1
    have e1 := cmpI_lt _ _ c1
    clear c1
    go_wp2_with fail
    refine (fracCmp_both f1.1 f1.2 f0.1 f0.2 ad _ (hs1.below (bw_alloc (bw_refl _) _)) o1 o0).mono ?_
    rw [e1]
    rintro e w1 ⟨rfl, K⟩
    have FB := keep K (heap_new _ _)
    replace LB := keep K ((heap_old _ _ (blk_lt LB)).trans LB)
    replace RB := keep K ((heap_old _ _ (blk_lt RB)).trans RB)
    replace TH := keep K ((heap_old _ _ (blk_lt TH)).trans TH)
    replace H := bw_trans (bw_alloc H _) K
    clear t0 t1 t2 t3 t4 t5 l0 l1 K hs1
    have zf := blk_lt FB
    have zl1 := blk_lt LB
    obtain ⟨u0, u1⟩ := blk_2 FB
    obtain ⟨q0, q1, qf0, qf1⟩ := blkF LB
    go_wp2_with fail
    replace LB := setF2 LB (u0 := .int .i64 f1.1) (u1 := .int .i64 f1.2)
    replace RB := setO2 RB (b := w.heap.size + 2) (i := 0) (j := 1) (v := .int .i64 f1.1) (u := .int .i64 f1.2) (by omega)
    replace TH := setO2 TH (b := w.heap.size + 2) (i := 0) (j := 1) (v := .int .i64 f1.1) (u := .int .i64 f1.2) (by omega)
    replace H := bw_set (bw_set H (p := ⟨w.heap.size + 2, 0, none⟩) (by dsimp only; omega) (.int .i64 f1.1)) (p := ⟨w.heap.size + 2, 1, none⟩) (by dsimp only; omega) (.int .i64 f1.2)
    clear q0 q1 qf0 qf1 e1
    generalize ((w1.setCell ⟨w.heap.size + 2, 0, none⟩ (.int .i64 f1.1)).setCell ⟨w.heap.size + 2, 1, none⟩ (.int .i64 f1.2)) = V1 at LB RB TH H ⊢
    clear u0 u1 FB zf zl zl1 zt
    rw [rounds_succ]
    obtain ⟨t0, t1, t2, t3, t4, t5⟩ := blk_6 TH
    obtain ⟨l0, l1⟩ := blk_2 LB
    have zl := blk_lt LB
    have zt := blk_lt TH
    have hs2 := h0.below H
    by_cases c2 : f2.1 * f1.2 < f1.1 * f2.2
    · have m2 : mn f1 f2 = f2 := if_pos c2
      have e2 := cmpI_lt _ _ c2
      clear c2
      go_wp2_with fail
      refine (fracCmp_both f2.1 f2.2 f1.1 f1.2 ad _ (hs2.below (bw_alloc (bw_refl _) _)) o2 o1).mono ?_
      rw [e2]
      rintro e w2 ⟨rfl, K⟩
      have FB := keep K (heap_new _ _)
      replace LB := keep K ((heap_old _ _ (blk_lt LB)).trans LB)
      replace RB := keep K ((heap_old _ _ (blk_lt RB)).trans RB)
      replace TH := keep K ((heap_old _ _ (blk_lt TH)).trans TH)
      replace H := bw_trans (bw_alloc H _) K
      clear t0 t1 t2 t3 t4 t5 l0 l1 K hs2
      have zf := blk_lt FB
      have zl2 := blk_lt LB
      obtain ⟨u0, u1⟩ := blk_2 FB
      obtain ⟨q0, q1, qf0, qf1⟩ := blkF LB
      go_wp2_with fail
      replace LB := setF2 LB (u0 := .int .i64 f2.1) (u1 := .int .i64 f2.2)
      replace RB := setO2 RB (b := w.heap.size + 2) (i := 0) (j := 1) (v := .int .i64 f2.1) (u := .int .i64 f2.2) (by omega)
      replace TH := setO2 TH (b := w.heap.size + 2) (i := 0) (j := 1) (v := .int .i64 f2.1) (u := .int .i64 f2.2) (by omega)
      replace H := bw_set (bw_set H (p := ⟨w.heap.size + 2, 0, none⟩) (by dsimp only; omega) (.int .i64 f2.1)) (p := ⟨w.heap.size + 2, 1, none⟩) (by dsimp only; omega) (.int .i64 f2.2)
      clear q0 q1 qf0 qf1 e2
      generalize ((w2.setCell ⟨w.heap.size + 2, 0, none⟩ (.int .i64 f2.1)).setCell ⟨w.heap.size + 2, 1, none⟩ (.int .i64 f2.2)) = V2 at LB RB TH H ⊢
      clear u0 u1 FB zf zl zl2 zt
      rw [rounds_succ]
      obtain ⟨t0, t1, t2, t3, t4, t5⟩ := blk_6 TH
      obtain ⟨l0, l1⟩ := blk_2 LB
      have zl := blk_lt LB
      have zt := blk_lt TH
      have hs3 := h0.below H
      by_cases c3 : f3.1 * f2.2 < f2.1 * f3.2
      · have m3 : mn f2 f3 = f3 := if_pos c3
        have e3 := cmpI_lt _ _ c3
        clear c3
        go_wp2_with fail
        refine (fracCmp_both f3.1 f3.2 f2.1 f2.2 ad _ (hs3.below (bw_alloc (bw_refl _) _)) o3 o2).mono ?_
        rw [e3]
        rintro e w3 ⟨rfl, K⟩
        have FB := keep K (heap_new _ _)
        replace LB := keep K ((heap_old _ _ (blk_lt LB)).trans LB)
        replace RB := keep K ((heap_old _ _ (blk_lt RB)).trans RB)
        replace TH := keep K ((heap_old _ _ (blk_lt TH)).trans TH)
        replace H := bw_trans (bw_alloc H _) K
        clear t0 t1 t2 t3 t4 t5 l0 l1 K hs3
        have zf := blk_lt FB
        have zl3 := blk_lt LB
        obtain ⟨u0, u1⟩ := blk_2 FB
        obtain ⟨q0, q1, qf0, qf1⟩ := blkF LB
        go_wp2_with fail
        replace LB := setF2 LB (u0 := .int .i64 f3.1) (u1 := .int .i64 f3.2)
        replace RB := setO2 RB (b := w.heap.size + 2) (i := 0) (j := 1) (v := .int .i64 f3.1) (u := .int .i64 f3.2) (by omega)
        replace TH := setO2 TH (b := w.heap.size + 2) (i := 0) (j := 1) (v := .int .i64 f3.1) (u := .int .i64 f3.2) (by omega)
        replace H := bw_set (bw_set H (p := ⟨w.heap.size + 2, 0, none⟩) (by dsimp only; omega) (.int .i64 f3.1)) (p := ⟨w.heap.size + 2, 1, none⟩) (by dsimp only; omega) (.int .i64 f3.2)
        clear q0 q1 qf0 qf1 e3
        generalize ((w3.setCell ⟨w.heap.size + 2, 0, none⟩ (.int .i64 f3.1)).setCell ⟨w.heap.size + 2, 1, none⟩ (.int .i64 f3.2)) = V3 at LB RB TH H ⊢
        clear u0 u1 FB zf zl zl3 zt
        rw [rounds_succ]
        obtain ⟨l0, l1⟩ := blk_2 LB
        have zl := blk_lt LB
        have zr := blk_lt RB
        obtain ⟨q0, q1, qf0, qf1⟩ := blkF RB
        have R2 := setF2 RB (u0 := .int .i64 f3.1) (u1 := .int .i64 f3.2)
        obtain ⟨r0, r1⟩ := blk_2 R2
        have HB : Hid _ := H
        have e1 : Hid (mnA f0 f1 f2 f3 = f3) := by change _ = _; unfold mnA; rw [m1, m2, m3]
        clear R2 RB LB TH H m1 m2 m3
        go_wp2_with fail
        exact bodyPost_ret (v := .agg #[.int .i64 f3.1, .int .i64 f3.2]) (by simp [results, Tryd.results46, go_sem, r0, r1]) rfl ⟨by rw [e1.out], by repeat (first | with_reducible exact HB.out | with_reducible refine bw_set ?_ (by dsimp only; omega) _)⟩
      · have m3 : mn f2 f3 = f2 := if_neg c3
        have g3 := cmpI_ge _ _ c3
        generalize hx3 : cmpI (f3.1 * f2.2) (f2.1 * f3.2) = x3 at g3
        have HX3 : Hid (cmpI (f3.1 * f2.2) (f2.1 * f3.2) = x3) := hx3
        have p3 : 0 ≤ x3 := by omega
        clear hx3 g3
        clear c3
        go_wp2_with fail
        refine (fracCmp_both f3.1 f3.2 f2.1 f2.2 ad _ (hs3.below (bw_alloc (bw_refl _) _)) o3 o2).mono ?_
        rw [HX3.out]
        rintro e w3 ⟨rfl, K⟩
        have FB := keep K (heap_new _ _)
        replace LB := keep K ((heap_old _ _ (blk_lt LB)).trans LB)
        replace RB := keep K ((heap_old _ _ (blk_lt RB)).trans RB)
        replace TH := keep K ((heap_old _ _ (blk_lt TH)).trans TH)
        replace H := bw_trans (bw_alloc H _) K
        clear t0 t1 t2 t3 t4 t5 l0 l1 K hs3
        have zf := blk_lt FB
        have zl3 := blk_lt LB
        obtain ⟨u0, u1⟩ := blk_2 FB
        go_wp2_with fail
        clear u0 u1 FB zf zl zl3 zt
        rw [rounds_succ]
        obtain ⟨l0, l1⟩ := blk_2 LB
        have zl := blk_lt LB
        have zr := blk_lt RB
        obtain ⟨q0, q1, qf0, qf1⟩ := blkF RB
        have R2 := setF2 RB (u0 := .int .i64 f2.1) (u1 := .int .i64 f2.2)
        obtain ⟨r0, r1⟩ := blk_2 R2
        have HB : Hid _ := H
        have e1 : Hid (mnA f0 f1 f2 f3 = f2) := by change _ = _; unfold mnA; rw [m1, m2, m3]
        clear R2 RB LB TH H m1 m2 m3
        go_wp2_with fail
        exact bodyPost_ret (v := .agg #[.int .i64 f2.1, .int .i64 f2.2]) (by simp [results, Tryd.results46, go_sem, r0, r1]) rfl ⟨by rw [e1.out], by repeat (first | with_reducible exact HB.out | with_reducible refine bw_set ?_ (by dsimp only; omega) _)⟩
    · have m2 : mn f1 f2 = f1 := if_neg c2
      have g2 := cmpI_ge _ _ c2
      generalize hx2 : cmpI (f2.1 * f1.2) (f1.1 * f2.2) = x2 at g2
      have HX2 : Hid (cmpI (f2.1 * f1.2) (f1.1 * f2.2) = x2) := hx2
      have p2 : 0 ≤ x2 := by omega
      clear hx2 g2
      clear c2
      go_wp2_with fail
      refine (fracCmp_both f2.1 f2.2 f1.1 f1.2 ad _ (hs2.below (bw_alloc (bw_refl _) _)) o2 o1).mono ?_
      rw [HX2.out]
      rintro e w2 ⟨rfl, K⟩
      have FB := keep K (heap_new _ _)
      replace LB := keep K ((heap_old _ _ (blk_lt LB)).trans LB)
      replace RB := keep K ((heap_old _ _ (blk_lt RB)).trans RB)
      replace TH := keep K ((heap_old _ _ (blk_lt TH)).trans TH)
      replace H := bw_trans (bw_alloc H _) K
      clear t0 t1 t2 t3 t4 t5 l0 l1 K hs2
      have zf := blk_lt FB
      have zl2 := blk_lt LB
      obtain ⟨u0, u1⟩ := blk_2 FB
      go_wp2_with fail
      clear u0 u1 FB zf zl zl2 zt
      rw [rounds_succ]
      obtain ⟨t0, t1, t2, t3, t4, t5⟩ := blk_6 TH
      obtain ⟨l0, l1⟩ := blk_2 LB
      have zl := blk_lt LB
      have zt := blk_lt TH
      have hs3 := h0.below H
      by_cases c3 : f3.1 * f1.2 < f1.1 * f3.2
      · have m3 : mn f1 f3 = f3 := if_pos c3
        have e3 := cmpI_lt _ _ c3
        clear c3
        go_wp2_with fail
        refine (fracCmp_both f3.1 f3.2 f1.1 f1.2 ad _ (hs3.below (bw_alloc (bw_refl _) _)) o3 o1).mono ?_
        rw [e3]
        rintro e w3 ⟨rfl, K⟩
        have FB := keep K (heap_new _ _)
        replace LB := keep K ((heap_old _ _ (blk_lt LB)).trans LB)
        replace RB := keep K ((heap_old _ _ (blk_lt RB)).trans RB)
        replace TH := keep K ((heap_old _ _ (blk_lt TH)).trans TH)
        replace H := bw_trans (bw_alloc H _) K
        clear t0 t1 t2 t3 t4 t5 l0 l1 K hs3
        have zf := blk_lt FB
        have zl3 := blk_lt LB
        obtain ⟨u0, u1⟩ := blk_2 FB
        obtain ⟨q0, q1, qf0, qf1⟩ := blkF LB
        go_wp2_with fail
        replace LB := setF2 LB (u0 := .int .i64 f3.1) (u1 := .int .i64 f3.2)
        replace RB := setO2 RB (b := w.heap.size + 2) (i := 0) (j := 1) (v := .int .i64 f3.1) (u := .int .i64 f3.2) (by omega)
        replace TH := setO2 TH (b := w.heap.size + 2) (i := 0) (j := 1) (v := .int .i64 f3.1) (u := .int .i64 f3.2) (by omega)
        replace H := bw_set (bw_set H (p := ⟨w.heap.size + 2, 0, none⟩) (by dsimp only; omega) (.int .i64 f3.1)) (p := ⟨w.heap.size + 2, 1, none⟩) (by dsimp only; omega) (.int .i64 f3.2)
        clear q0 q1 qf0 qf1 e3
        generalize ((w3.setCell ⟨w.heap.size + 2, 0, none⟩ (.int .i64 f3.1)).setCell ⟨w.heap.size + 2, 1, none⟩ (.int .i64 f3.2)) = V3 at LB RB TH H ⊢
        clear u0 u1 FB zf zl zl3 zt
        rw [rounds_succ]
        obtain ⟨l0, l1⟩ := blk_2 LB
        have zl := blk_lt LB
        have zr := blk_lt RB
        obtain ⟨q0, q1, qf0, qf1⟩ := blkF RB
        have R2 := setF2 RB (u0 := .int .i64 f3.1) (u1 := .int .i64 f3.2)
        obtain ⟨r0, r1⟩ := blk_2 R2
        have HB : Hid _ := H
        have e1 : Hid (mnA f0 f1 f2 f3 = f3) := by change _ = _; unfold mnA; rw [m1, m2, m3]
        clear R2 RB LB TH H m1 m2 m3
        go_wp2_with fail
        exact bodyPost_ret (v := .agg #[.int .i64 f3.1, .int .i64 f3.2]) (by simp [results, Tryd.results46, go_sem, r0, r1]) rfl ⟨by rw [e1.out], by repeat (first | with_reducible exact HB.out | with_reducible refine bw_set ?_ (by dsimp only; omega) _)⟩
      · have m3 : mn f1 f3 = f1 := if_neg c3
        have g3 := cmpI_ge _ _ c3
        generalize hx3 : cmpI (f3.1 * f1.2) (f1.1 * f3.2) = x3 at g3
        have HX3 : Hid (cmpI (f3.1 * f1.2) (f1.1 * f3.2) = x3) := hx3
        have p3 : 0 ≤ x3 := by omega
        clear hx3 g3
        clear c3
        go_wp2_with fail
        refine (fracCmp_both f3.1 f3.2 f1.1 f1.2 ad _ (hs3.below (bw_alloc (bw_refl _) _)) o3 o1).mono ?_
        rw [HX3.out]
        rintro e w3 ⟨rfl, K⟩
        have FB := keep K (heap_new _ _)
        replace LB := keep K ((heap_old _ _ (blk_lt LB)).trans LB)
        replace RB := keep K ((heap_old _ _ (blk_lt RB)).trans RB)
        replace TH := keep K ((heap_old _ _ (blk_lt TH)).trans TH)
        replace H := bw_trans (bw_alloc H _) K
        clear t0 t1 t2 t3 t4 t5 l0 l1 K hs3
        have zf := blk_lt FB
        have zl3 := blk_lt LB
        obtain ⟨u0, u1⟩ := blk_2 FB
        go_wp2_with fail
        clear u0 u1 FB zf zl zl3 zt
        rw [rounds_succ]
        obtain ⟨l0, l1⟩ := blk_2 LB
        have zl := blk_lt LB
        have zr := blk_lt RB
        obtain ⟨q0, q1, qf0, qf1⟩ := blkF RB
        have R2 := setF2 RB (u0 := .int .i64 f1.1) (u1 := .int .i64 f1.2)
        obtain ⟨r0, r1⟩ := blk_2 R2
        have HB : Hid _ := H
        have e1 : Hid (mnA f0 f1 f2 f3 = f1) := by change _ = _; unfold mnA; rw [m1, m2, m3]
        clear R2 RB LB TH H m1 m2 m3
        go_wp2_with fail
        exact bodyPost_ret (v := .agg #[.int .i64 f1.1, .int .i64 f1.2]) (by simp [results, Tryd.results46, go_sem, r0, r1]) rfl ⟨by rw [e1.out], by repeat (first | with_reducible exact HB.out | with_reducible refine bw_set ?_ (by dsimp only; omega) _)⟩
  · have m1 : mn f0 f1 = f0 := if_neg c1
    have g1 := cmpI_ge _ _ c1
    generalize hx1 : cmpI (f1.1 * f0.2) (f0.1 * f1.2) = x1 at g1
    have HX1 : Hid (cmpI (f1.1 * f0.2) (f0.1 * f1.2) = x1) := hx1
    have p1 : 0 ≤ x1 := by omega
    clear hx1 g1
    clear c1
    go_wp2_with fail
    refine (fracCmp_both f1.1 f1.2 f0.1 f0.2 ad _ (hs1.below (bw_alloc (bw_refl _) _)) o1 o0).mono ?_
    rw [HX1.out]
    rintro e w1 ⟨rfl, K⟩
    have FB := keep K (heap_new _ _)
    replace LB := keep K ((heap_old _ _ (blk_lt LB)).trans LB)
    replace RB := keep K ((heap_old _ _ (blk_lt RB)).trans RB)
    replace TH := keep K ((heap_old _ _ (blk_lt TH)).trans TH)
    replace H := bw_trans (bw_alloc H _) K
    clear t0 t1 t2 t3 t4 t5 l0 l1 K hs1
    have zf := blk_lt FB
    have zl1 := blk_lt LB
    obtain ⟨u0, u1⟩ := blk_2 FB
    go_wp2_with fail
    clear u0 u1 FB zf zl zl1 zt
    rw [rounds_succ]
    obtain ⟨t0, t1, t2, t3, t4, t5⟩ := blk_6 TH
    obtain ⟨l0, l1⟩ := blk_2 LB
    have zl := blk_lt LB
    have zt := blk_lt TH
    have hs2 := h0.below H
    by_cases c2 : f2.1 * f0.2 < f0.1 * f2.2
    · have m2 : mn f0 f2 = f2 := if_pos c2
      have e2 := cmpI_lt _ _ c2
      clear c2
      go_wp2_with fail
      refine (fracCmp_both f2.1 f2.2 f0.1 f0.2 ad _ (hs2.below (bw_alloc (bw_refl _) _)) o2 o0).mono ?_
      rw [e2]
      rintro e w2 ⟨rfl, K⟩
      have FB := keep K (heap_new _ _)
      replace LB := keep K ((heap_old _ _ (blk_lt LB)).trans LB)
      replace RB := keep K ((heap_old _ _ (blk_lt RB)).trans RB)
      replace TH := keep K ((heap_old _ _ (blk_lt TH)).trans TH)
      replace H := bw_trans (bw_alloc H _) K
      clear t0 t1 t2 t3 t4 t5 l0 l1 K hs2
      have zf := blk_lt FB
      have zl2 := blk_lt LB
      obtain ⟨u0, u1⟩ := blk_2 FB
      obtain ⟨q0, q1, qf0, qf1⟩ := blkF LB
      go_wp2_with fail
      replace LB := setF2 LB (u0 := .int .i64 f2.1) (u1 := .int .i64 f2.2)
      replace RB := setO2 RB (b := w.heap.size + 2) (i := 0) (j := 1) (v := .int .i64 f2.1) (u := .int .i64 f2.2) (by omega)
      replace TH := setO2 TH (b := w.heap.size + 2) (i := 0) (j := 1) (v := .int .i64 f2.1) (u := .int .i64 f2.2) (by omega)
      replace H := bw_set (bw_set H (p := ⟨w.heap.size + 2, 0, none⟩) (by dsimp only; omega) (.int .i64 f2.1)) (p := ⟨w.heap.size + 2, 1, none⟩) (by dsimp only; omega) (.int .i64 f2.2)
      clear q0 q1 qf0 qf1 e2
      generalize ((w2.setCell ⟨w.heap.size + 2, 0, none⟩ (.int .i64 f2.1)).setCell ⟨w.heap.size + 2, 1, none⟩ (.int .i64 f2.2)) = V2 at LB RB TH H ⊢
      clear u0 u1 FB zf zl zl2 zt
      rw [rounds_succ]
      obtain ⟨t0, t1, t2, t3, t4, t5⟩ := blk_6 TH
      obtain ⟨l0, l1⟩ := blk_2 LB
      have zl := blk_lt LB
      have zt := blk_lt TH
      have hs3 := h0.below H
      by_cases c3 : f3.1 * f2.2 < f2.1 * f3.2
      · have m3 : mn f2 f3 = f3 := if_pos c3
        have e3 := cmpI_lt _ _ c3
        clear c3
        go_wp2_with fail
        refine (fracCmp_both f3.1 f3.2 f2.1 f2.2 ad _ (hs3.below (bw_alloc (bw_refl _) _)) o3 o2).mono ?_
        rw [e3]
        rintro e w3 ⟨rfl, K⟩
        have FB := keep K (heap_new _ _)
        replace LB := keep K ((heap_old _ _ (blk_lt LB)).trans LB)
        replace RB := keep K ((heap_old _ _ (blk_lt RB)).trans RB)
        replace TH := keep K ((heap_old _ _ (blk_lt TH)).trans TH)
        replace H := bw_trans (bw_alloc H _) K
        clear t0 t1 t2 t3 t4 t5 l0 l1 K hs3
        have zf := blk_lt FB
        have zl3 := blk_lt LB
        obtain ⟨u0, u1⟩ := blk_2 FB
        obtain ⟨q0, q1, qf0, qf1⟩ := blkF LB
        go_wp2_with fail
        replace LB := setF2 LB (u0 := .int .i64 f3.1) (u1 := .int .i64 f3.2)
        replace RB := setO2 RB (b := w.heap.size + 2) (i := 0) (j := 1) (v := .int .i64 f3.1) (u := .int .i64 f3.2) (by omega)
        replace TH := setO2 TH (b := w.heap.size + 2) (i := 0) (j := 1) (v := .int .i64 f3.1) (u := .int .i64 f3.2) (by omega)
        replace H := bw_set (bw_set H (p := ⟨w.heap.size + 2, 0, none⟩) (by dsimp only; omega) (.int .i64 f3.1)) (p := ⟨w.heap.size + 2, 1, none⟩) (by dsimp only; omega) (.int .i64 f3.2)
        clear q0 q1 qf0 qf1 e3
        generalize ((w3.setCell ⟨w.heap.size + 2, 0, none⟩ (.int .i64 f3.1)).setCell ⟨w.heap.size + 2, 1, none⟩ (.int .i64 f3.2)) = V3 at LB RB TH H ⊢
        clear u0 u1 FB zf zl zl3 zt
        rw [rounds_succ]
        obtain ⟨l0, l1⟩ := blk_2 LB
        have zl := blk_lt LB
        have zr := blk_lt RB
        obtain ⟨q0, q1, qf0, qf1⟩ := blkF RB
        have R2 := setF2 RB (u0 := .int .i64 f3.1) (u1 := .int .i64 f3.2)
        obtain ⟨r0, r1⟩ := blk_2 R2
        have HB : Hid _ := H
        have e1 : Hid (mnA f0 f1 f2 f3 = f3) := by change _ = _; unfold mnA; rw [m1, m2, m3]
        clear R2 RB LB TH H m1 m2 m3
        go_wp2_with fail
        exact bodyPost_ret (v := .agg #[.int .i64 f3.1, .int .i64 f3.2]) (by simp [results, Tryd.results46, go_sem, r0, r1]) rfl ⟨by rw [e1.out], by repeat (first | with_reducible exact HB.out | with_reducible refine bw_set ?_ (by dsimp only; omega) _)⟩
      · have m3 : mn f2 f3 = f2 := if_neg c3
        have g3 := cmpI_ge _ _ c3
        generalize hx3 : cmpI (f3.1 * f2.2) (f2.1 * f3.2) = x3 at g3
        have HX3 : Hid (cmpI (f3.1 * f2.2) (f2.1 * f3.2) = x3) := hx3
        have p3 : 0 ≤ x3 := by omega
        clear hx3 g3
        clear c3
        go_wp2_with fail
        refine (fracCmp_both f3.1 f3.2 f2.1 f2.2 ad _ (hs3.below (bw_alloc (bw_refl _) _)) o3 o2).mono ?_
        rw [HX3.out]
        rintro e w3 ⟨rfl, K⟩
        have FB := keep K (heap_new _ _)
        replace LB := keep K ((heap_old _ _ (blk_lt LB)).trans LB)
        replace RB := keep K ((heap_old _ _ (blk_lt RB)).trans RB)
        replace TH := keep K ((heap_old _ _ (blk_lt TH)).trans TH)
        replace H := bw_trans (bw_alloc H _) K
        clear t0 t1 t2 t3 t4 t5 l0 l1 K hs3
        have zf := blk_lt FB
        have zl3 := blk_lt LB
        obtain ⟨u0, u1⟩ := blk_2 FB
        go_wp2_with fail
        clear u0 u1 FB zf zl zl3 zt
        rw [rounds_succ]
        obtain ⟨l0, l1⟩ := blk_2 LB
        have zl := blk_lt LB
        have zr := blk_lt RB
        obtain ⟨q0, q1, qf0, qf1⟩ := blkF RB
        have R2 := setF2 RB (u0 := .int .i64 f2.1) (u1 := .int .i64 f2.2)
        obtain ⟨r0, r1⟩ := blk_2 R2
        have HB : Hid _ := H
        have e1 : Hid (mnA f0 f1 f2 f3 = f2) := by change _ = _; unfold mnA; rw [m1, m2, m3]
        clear R2 RB LB TH H m1 m2 m3
        go_wp2_with fail
        exact bodyPost_ret (v := .agg #[.int .i64 f2.1, .int .i64 f2.2]) (by simp [results, Tryd.results46, go_sem, r0, r1]) rfl ⟨by rw [e1.out], by repeat (first | with_reducible exact HB.out | with_reducible refine bw_set ?_ (by dsimp only; omega) _)⟩
    · have m2 : mn f0 f2 = f0 := if_neg c2
      have g2 := cmpI_ge _ _ c2
      generalize hx2 : cmpI (f2.1 * f0.2) (f0.1 * f2.2) = x2 at g2
      have HX2 : Hid (cmpI (f2.1 * f0.2) (f0.1 * f2.2) = x2) := hx2
      have p2 : 0 ≤ x2 := by omega
      clear hx2 g2
      clear c2
      go_wp2_with fail
      refine (fracCmp_both f2.1 f2.2 f0.1 f0.2 ad _ (hs2.below (bw_alloc (bw_refl _) _)) o2 o0).mono ?_
      rw [HX2.out]
      rintro e w2 ⟨rfl, K⟩
      have FB := keep K (heap_new _ _)
      replace LB := keep K ((heap_old _ _ (blk_lt LB)).trans LB)
      replace RB := keep K ((heap_old _ _ (blk_lt RB)).trans RB)
      replace TH := keep K ((heap_old _ _ (blk_lt TH)).trans TH)
      replace H := bw_trans (bw_alloc H _) K
      clear t0 t1 t2 t3 t4 t5 l0 l1 K hs2
      have zf := blk_lt FB
      have zl2 := blk_lt LB
      obtain ⟨u0, u1⟩ := blk_2 FB
      go_wp2_with fail
      clear u0 u1 FB zf zl zl2 zt
      rw [rounds_succ]
      obtain ⟨t0, t1, t2, t3, t4, t5⟩ := blk_6 TH
      obtain ⟨l0, l1⟩ := blk_2 LB
      have zl := blk_lt LB
      have zt := blk_lt TH
      have hs3 := h0.below H
      by_cases c3 : f3.1 * f0.2 < f0.1 * f3.2
      · have m3 : mn f0 f3 = f3 := if_pos c3
        have e3 := cmpI_lt _ _ c3
        clear c3
        go_wp2_with fail
        refine (fracCmp_both f3.1 f3.2 f0.1 f0.2 ad _ (hs3.below (bw_alloc (bw_refl _) _)) o3 o0).mono ?_
        rw [e3]
        rintro e w3 ⟨rfl, K⟩
        have FB := keep K (heap_new _ _)
        replace LB := keep K ((heap_old _ _ (blk_lt LB)).trans LB)
        replace RB := keep K ((heap_old _ _ (blk_lt RB)).trans RB)
        replace TH := keep K ((heap_old _ _ (blk_lt TH)).trans TH)
        replace H := bw_trans (bw_alloc H _) K
        clear t0 t1 t2 t3 t4 t5 l0 l1 K hs3
        have zf := blk_lt FB
        have zl3 := blk_lt LB
        obtain ⟨u0, u1⟩ := blk_2 FB
        obtain ⟨q0, q1, qf0, qf1⟩ := blkF LB
        go_wp2_with fail
        replace LB := setF2 LB (u0 := .int .i64 f3.1) (u1 := .int .i64 f3.2)
        replace RB := setO2 RB (b := w.heap.size + 2) (i := 0) (j := 1) (v := .int .i64 f3.1) (u := .int .i64 f3.2) (by omega)
        replace TH := setO2 TH (b := w.heap.size + 2) (i := 0) (j := 1) (v := .int .i64 f3.1) (u := .int .i64 f3.2) (by omega)
        replace H := bw_set (bw_set H (p := ⟨w.heap.size + 2, 0, none⟩) (by dsimp only; omega) (.int .i64 f3.1)) (p := ⟨w.heap.size + 2, 1, none⟩) (by dsimp only; omega) (.int .i64 f3.2)
        clear q0 q1 qf0 qf1 e3
        generalize ((w3.setCell ⟨w.heap.size + 2, 0, none⟩ (.int .i64 f3.1)).setCell ⟨w.heap.size + 2, 1, none⟩ (.int .i64 f3.2)) = V3 at LB RB TH H ⊢
        clear u0 u1 FB zf zl zl3 zt
        rw [rounds_succ]
        obtain ⟨l0, l1⟩ := blk_2 LB
        have zl := blk_lt LB
        have zr := blk_lt RB
        obtain ⟨q0, q1, qf0, qf1⟩ := blkF RB
        have R2 := setF2 RB (u0 := .int .i64 f3.1) (u1 := .int .i64 f3.2)
        obtain ⟨r0, r1⟩ := blk_2 R2
        have HB : Hid _ := H
        have e1 : Hid (mnA f0 f1 f2 f3 = f3) := by change _ = _; unfold mnA; rw [m1, m2, m3]
        clear R2 RB LB TH H m1 m2 m3
        go_wp2_with fail
        exact bodyPost_ret (v := .agg #[.int .i64 f3.1, .int .i64 f3.2]) (by simp [results, Tryd.results46, go_sem, r0, r1]) rfl ⟨by rw [e1.out], by repeat (first | with_reducible exact HB.out | with_reducible refine bw_set ?_ (by dsimp only; omega) _)⟩
      · have m3 : mn f0 f3 = f0 := if_neg c3
        have g3 := cmpI_ge _ _ c3
        generalize hx3 : cmpI (f3.1 * f0.2) (f0.1 * f3.2) = x3 at g3
        have HX3 : Hid (cmpI (f3.1 * f0.2) (f0.1 * f3.2) = x3) := hx3
        have p3 : 0 ≤ x3 := by omega
        clear hx3 g3
        clear c3
        go_wp2_with fail
        refine (fracCmp_both f3.1 f3.2 f0.1 f0.2 ad _ (hs3.below (bw_alloc (bw_refl _) _)) o3 o0).mono ?_
        rw [HX3.out]
        rintro e w3 ⟨rfl, K⟩
        have FB := keep K (heap_new _ _)
        replace LB := keep K ((heap_old _ _ (blk_lt LB)).trans LB)
        replace RB := keep K ((heap_old _ _ (blk_lt RB)).trans RB)
        replace TH := keep K ((heap_old _ _ (blk_lt TH)).trans TH)
        replace H := bw_trans (bw_alloc H _) K
        clear t0 t1 t2 t3 t4 t5 l0 l1 K hs3
        have zf := blk_lt FB
        have zl3 := blk_lt LB
        obtain ⟨u0, u1⟩ := blk_2 FB
        go_wp2_with fail
        clear u0 u1 FB zf zl zl3 zt
        rw [rounds_succ]
        obtain ⟨l0, l1⟩ := blk_2 LB
        have zl := blk_lt LB
        have zr := blk_lt RB
        obtain ⟨q0, q1, qf0, qf1⟩ := blkF RB
        have R2 := setF2 RB (u0 := .int .i64 f0.1) (u1 := .int .i64 f0.2)
        obtain ⟨r0, r1⟩ := blk_2 R2
        have HB : Hid _ := H
        have e1 : Hid (mnA f0 f1 f2 f3 = f0) := by change _ = _; unfold mnA; rw [m1, m2, m3]
        clear R2 RB LB TH H m1 m2 m3
        go_wp2_with fail
        exact bodyPost_ret (v := .agg #[.int .i64 f0.1, .int .i64 f0.2]) (by simp [results, Tryd.results46, go_sem, r0, r1]) rfl ⟨by rw [e1.out], by repeat (first | with_reducible exact HB.out | with_reducible refine bw_set ?_ (by dsimp only; omega) _)⟩
end Go.Proofs.YtlikfcfblkckaaaDoor
namespace Go.Proofs.YtlikfcfblkckaaaDoor
open Go.RowKit Go.Sort

def frAt (fs : List (Int × Int)) (j : Nat) : Int × Int := fs[j]?.getD (0, 1)
theorem fold_take (fs : List (Int × Int)) (f0 : Int × Int) (k : Nat) (hk : k < fs.length) : (fs.take (k + 1)).foldl mn f0 = mn ((fs.take k).foldl mn f0) (frAt fs k) := by
  rw [List.take_add_one, List.foldl_append, List.getElem?_eq_getElem hk]; simp [frAt, hk]
theorem fold_ok (fs : List (Int × Int)) (f0 : Int × Int) (h0 : OkF f0) (hfs : ∀ f ∈ fs, OkF f) : OkF (fs.foldl mn f0) := by
  induction fs generalizing f0 with
  | nil => exact h0
  | cons f fs ih => exact ih _ (mn_ok h0 (hfs f (by simp))) (fun g hg => hfs g (by simp [hg]))
set_option maxRecDepth 100000 in
set_option maxHeartbeats 2000000 in
theorem leastRow_ok (f0 : Int × Int) (fs : List (Int × Int)) (b off len cap : Nat) (ad : Addr) (w : World) (h0 : Sent ad w) (o0 : OkF f0) (hfs : ∀ f ∈ fs, OkF f) (hl : Hid (fs.length = len)) (hlen : len ≤ 1000) (hb : b < w.heap.size)
    (hc : ∀ j, j < len → w.cell? ⟨b, off + j * 2, none⟩ = some (.int .i64 (frAt fs j).1) ∧ w.cell? ⟨b, off + j * 2 + 1, none⟩ = some (.int .i64 (frAt fs j).2)) :
    Calls Tryd.prog 46 #[.agg #[.int .i64 f0.1, .int .i64 f0.2], .slice (some ⟨b, off, none⟩) len cap] w fun e w' => e = .returned (.agg #[.int .i64 (fs.foldl mn f0).1, .int .i64 (fs.foldl mn f0).2]) ∧ Below w.heap.size w w' := by
  obtain ⟨W, hW, H, _, RB, LB⟩ := boxes3 w (.cells #[.int .i64 f0.1, .int .i64 f0.2] 32) (.cells #[.int .i64 0, .int .i64 0] 32) (.cells #[.int .i64 f0.1, .int .i64 f0.2] 32)
  have HT : Hid (∀ k, k < len → (fs.take (k + 1)).foldl mn f0 = mn ((fs.take k).foldl mn f0) (frAt fs k)) := fun k hk => fold_take fs f0 k (by rw [hl.out]; exact hk)
  have HOK : Hid (∀ k, OkF ((fs.take k).foldl mn f0)) := fun k => fold_ok _ _ o0 (fun f hf => hfs f (List.mem_of_mem_take hf))
  have HO2 : Hid (∀ k, k < len → OkF (frAt fs k)) := fun k hk => hfs _ (by unfold frAt; rw [List.getElem?_eq_getElem (by rw [hl.out]; exact hk), Option.getD_some]; exact List.getElem_mem _)
  go_enter Tryd.func46, Tryd.ntmps46
  go_upto_region 3 with fail
  rw [← hW]
  clear hW
  go_loopw [11] (fun i wr => ∃ (k : Nat) (m : Int × Int), k ≤ len ∧ i = .int .i64 k ∧ m = (fs.take k).foldl mn f0 ∧ wr.heap[w.heap.size + 2]? = some (.cells #[.int .i64 m.1, .int .i64 m.2] 32 (0, 0)) ∧ wr.heap[w.heap.size + 1]? = some (.cells #[.int .i64 0, .int .i64 0] 32 (0, 0)) ∧ Below w.heap.size w wr) (fun i _ => len - (intOf i).toNat)
  case atStart => exact ⟨0, f0, Nat.zero_le _, rfl, rfl, LB, RB, H⟩
  case round =>
    obtain ⟨k, m, hk, rfl, hm, LB, RB, H⟩ := hrel
    have hs1 := h0.below H
    have zl := blk_lt LB
    by_cases hlt : k < len
    case neg =>
      obtain rfl : len = k := by omega
      rw [List.take_of_length_le (by rw [hl.out]; exact Nat.le_refl _)] at hm
      obtain ⟨l0, l1⟩ := blk_2 LB
      obtain ⟨q0, q1, qf0, qf1⟩ := blkF RB
      have RB2 := setF2 RB (u0 := .int .i64 m.1) (u1 := .int .i64 m.2)
      obtain ⟨v0, v1⟩ := blk_2 RB2
      have HM : Hid (m = fs.foldl mn f0) := hm
      clear hm
      go_wp2_with fail
      refine bodyPost_ret (v := .agg #[.int .i64 m.1, .int .i64 m.2]) (by simp [results, Tryd.results46, go_sem, v0, v1]) rfl ⟨by rw [HM.out], ?_⟩
      exact bw_set (bw_set H (p := ⟨w.heap.size + 1, 0, none⟩) (by dsimp only; omega) _) (p := ⟨w.heap.size + 1, 1, none⟩) (by dsimp only; omega) _
    case pos =>
      have om : OkF m := by rw [hm]; exact HOK.out k
      have og := HO2.out k hlt
      have hst := HT.out k hlt
      rw [← hm] at hst
      clear hm
      obtain ⟨c0, c1⟩ := hc k hlt
      have d0 := (H.cell (p := ⟨b, off + k * 2, none⟩) hb).trans c0
      have d1 := (H.cell (p := ⟨b, off + k * 2 + 1, none⟩) hb).trans c1
      obtain ⟨l0, l1⟩ := blk_2 LB
      have i0 : (0 : Int) ≤ (k : Int) := Int.natCast_nonneg _
      have i1 : (k : Int) < (len : Int) := by omega
      have k9 : (k : Int) ≤ 1000 := by omega
      generalize frAt fs k = g at *
      have HS : Hid ((fs.take (k + 1)).foldl mn f0 = mn m g) := hst
      clear hst c0 c1
      by_cases c : g.1 * m.2 < m.1 * g.2
      · have m1 : mn m g = g := if_pos c
        have e1 := cmpI_lt _ _ c
        clear c
        go_wp2_with fail
        refine (fracCmp_both g.1 g.2 m.1 m.2 ad _ (hs1.below (bw_alloc (bw_refl _) _)) og om).mono ?_
        rw [e1]
        rintro e w1 ⟨rfl, K⟩
        have FB := keep K (heap_new _ _)
        replace LB := keep K ((heap_old _ _ (blk_lt LB)).trans LB)
        replace RB := keep K ((heap_old _ _ (blk_lt RB)).trans RB)
        replace H := bw_trans (bw_alloc H _) K
        clear l0 l1 K hs1 d0 d1
        have zf := blk_lt FB
        obtain ⟨u0, u1⟩ := blk_2 FB
        obtain ⟨q0, q1, qf0, qf1⟩ := blkF LB
        go_wp2_with fail
        have LB2 := setF2 LB (u0 := .int .i64 g.1) (u1 := .int .i64 g.2)
        have RB2 := setO2 RB (b := w.heap.size + 2) (i := 0) (j := 1) (v := .int .i64 g.1) (u := .int .i64 g.2) (by omega)
        have H2 := bw_set (bw_set H (p := ⟨w.heap.size + 2, 0, none⟩) (by dsimp only; omega) (.int .i64 g.1)) (p := ⟨w.heap.size + 2, 1, none⟩) (by dsimp only; omega) (.int .i64 g.2)
        go_roundw
        case rel => exact ⟨k + 1, g, by omega, by simp, by rw [HS.out, m1], LB2, RB2, H2⟩
        case measure => simp [intOf]; omega
      · have m1 : mn m g = m := if_neg c
        have e1 := cmpI_ge _ _ c
        obtain ⟨x, hx⟩ : ∃ x, cmpI (g.1 * m.2) (m.1 * g.2) = x := ⟨_, rfl⟩
        rw [hx] at e1
        clear c
        have hcall := fracCmp_both g.1 g.2 m.1 m.2 ad (wr.alloc (.cells #[.int .i64 g.1, .int .i64 g.2] 32)) (hs1.below (bw_alloc (bw_refl _) _)) og om
        rw [hx] at hcall
        clear hx
        go_wp2_with fail
        refine hcall.mono ?_
        rintro e w1 ⟨rfl, K⟩
        replace LB := keep K ((heap_old _ _ (blk_lt LB)).trans LB)
        replace RB := keep K ((heap_old _ _ (blk_lt RB)).trans RB)
        replace H := bw_trans (bw_alloc H _) K
        clear l0 l1 K hs1 d0 d1
        go_wp2_with fail
        go_roundw
        case rel => exact ⟨k + 1, m, by omega, by simp, by rw [HS.out, m1], LB, RB, H⟩
        case measure => simp [intOf]; omega
end Go.Proofs.YtlikfcfblkckaaaDoor
namespace Go.Proofs.YtlikfcfblkckaaaDoor

/-- The least of some fractions. -/
def leastL : List (Int × Int) → Int × Int
  | [] => (0, 0)
  | f :: fs => fs.foldl mn f
/-- It is one of them, and not more than any. -/
structure LeastOf (m : Int × Int) (fs : List (Int × Int)) : Prop where
  mem : m ∈ fs
  le : ∀ f ∈ fs, LeF m f
theorem foldl_mn (fs : List (Int × Int)) : ∀ (f0 : Int × Int), OkF f0 → (∀ f ∈ fs, OkF f) → LeastOf (fs.foldl mn f0) (f0 :: fs) ∧ OkF (fs.foldl mn f0) := by
  induction fs with
  | nil => intro f0 h0 _; exact ⟨⟨by simp, fun f hf => by simp at hf; rw [hf]; exact LeF.refl _⟩, h0⟩
  | cons g fs ih =>
    intro f0 h0 h
    have hg := h g (by simp)
    have ho := mn_ok h0 hg
    obtain ⟨⟨h1, h2⟩, h3⟩ := ih (mn f0 g) ho (fun f hf => h f (by simp [hf]))
    refine ⟨⟨?_, fun f hf => ?_⟩, h3⟩
    · rcases List.mem_cons.1 h1 with e | e
      · rcases mn_mem f0 g with e2 | e2
        · rw [List.foldl_cons, e, e2]; simp
        · rw [List.foldl_cons, e, e2]; simp
      · exact List.mem_cons_of_mem _ (List.mem_cons_of_mem _ e)
    · have hm := h2 (mn f0 g) (by simp)
      rcases List.mem_cons.1 hf with e | e
      · subst e; exact LeF.trans h3 ho h0 hm (mn_le1 _ _)
      · rcases List.mem_cons.1 e with e | e
        · subst e; exact LeF.trans h3 ho hg hm (mn_le2 _ _)
        · exact h2 f (List.mem_cons_of_mem _ e)
theorem leastL_of {fs : List (Int × Int)} (hne : fs ≠ []) (h : ∀ f ∈ fs, OkF f) : LeastOf (leastL fs) fs := by
  cases fs with
  | nil => exact absurd rfl hne
  | cons f fs => exact (foldl_mn fs f (h f (by simp)) (fun g hg => h g (by simp [hg]))).1
theorem leastL_ok {fs : List (Int × Int)} (hne : fs ≠ []) (h : ∀ f ∈ fs, OkF f) : OkF (leastL fs) := h _ (leastL_of hne h).mem
theorem LeastOf.unique {m m' : Int × Int} {fs : List (Int × Int)} (h : ∀ f ∈ fs, OkF f) (a : LeastOf m fs) (b : LeastOf m' fs) : m = m' :=
  LeF.antisymm (h _ a.mem) (h _ b.mem) (a.le _ b.mem) (b.le _ a.mem)
theorem LeastOf.congr {m : Int × Int} {fs gs : List (Int × Int)} (a : LeastOf m fs) (h : ∀ f, f ∈ fs ↔ f ∈ gs) : LeastOf m gs := ⟨(h _).1 a.mem, fun f hf => a.le f ((h f).2 hf)⟩
theorem leastL_congr {fs gs : List (Int × Int)} (hok : ∀ f ∈ fs, OkF f) (h : ∀ f, f ∈ fs ↔ f ∈ gs) : leastL fs = leastL gs := by
  cases fs with
  | nil => cases gs with
    | nil => rfl
    | cons g gs => exact absurd ((h g).2 (by simp)) (by simp)
  | cons f fs =>
    have hgs : gs ≠ [] := by rintro rfl; exact absurd ((h f).1 (by simp)) (by simp)
    exact ((leastL_of (by simp) hok).congr h).unique (fun g hg => hok g ((h g).2 hg)) (leastL_of hgs fun g hg => hok g ((h g).2 hg))
/-- The least of more is the least of both leasts. -/
theorem leastL_append {fs gs : List (Int × Int)} (hf : fs ≠ []) (hg : gs ≠ []) (okf : ∀ f ∈ fs, OkF f) (okg : ∀ f ∈ gs, OkF f) : leastL (fs ++ gs) = mn (leastL fs) (leastL gs) := by
  have a := leastL_of hf okf
  have b := leastL_of hg okg
  have ok : ∀ f ∈ fs ++ gs, OkF f := fun f h => (List.mem_append.1 h).elim (okf f) (okg f)
  refine (leastL_of (by simp [hf]) ok).unique ok ⟨?_, fun f h => ?_⟩
  · rcases mn_mem (leastL fs) (leastL gs) with e | e
    · rw [e]; exact List.mem_append_left _ a.mem
    · rw [e]; exact List.mem_append_right _ b.mem
  · have oa := okf _ a.mem
    have ob := okg _ b.mem
    rcases List.mem_append.1 h with h | h
    · exact LeF.trans (mn_ok oa ob) oa (okf f h) (mn_le1 (leastL fs) (leastL gs)) (a.le f h)
    · exact LeF.trans (mn_ok oa ob) ob (okg f h) (mn_le2 (leastL fs) (leastL gs)) (b.le f h)
end Go.Proofs.YtlikfcfblkckaaaDoor
namespace Go.Proofs.YtlikfcfblkckaaaDoor
open Go.RowKit Go.Sort

theorem frCells_at (fs : List (Int × Int)) (j : Nat) (hj : j < fs.length) : (frCells fs)[j * 2]? = some (.int .i64 (frAt fs j).1) ∧ (frCells fs)[j * 2 + 1]? = some (.int .i64 (frAt fs j).2) := by
  induction fs generalizing j with
  | nil => simp at hj
  | cons f fs ih =>
    have e : frCells (f :: fs) = .int .i64 f.1 :: .int .i64 f.2 :: frCells fs := by simp [frCells]
    cases j with
    | zero => rw [e]; exact ⟨rfl, rfl⟩
    | succ j =>
      have := ih j (by simpa using hj)
      have e1 : (j + 1) * 2 = j * 2 + 1 + 1 := by omega
      rw [e, e1]
      simpa [frAt] using this
set_option maxRecDepth 100000 in
set_option maxHeartbeats 2000000 in
theorem boardFar_any (b : Nat) (rs : List RingT) (p : P2) (ad : Addr) (w : World) (h0 : Sent ad w) (hR : RingN w.heap.size w (some ⟨b, 0, none⟩) rs) (hes : (edgR rs).length ≤ 1000) (he1 : 2 ≤ (edgR rs).length) (hok : ∀ s ∈ edgR rs, OkF (farS p s)) :
    Calls Tryd.prog 21 #[.pointer (some ⟨b, 0, none⟩), .agg #[.int .i64 p.1, .int .i64 p.2]] w fun e W' => e = .returned (.agg #[.int .i64 (leastL ((edgR rs).map (farS p))).1, .int .i64 (leastL ((edgR rs).map (farS p))).2]) ∧ Below w.heap.size w W' := by
  obtain ⟨W, hW, BW, T, RB⟩ := boxes2 w (.cells #[.int .i64 p.1, .int .i64 p.2] 28) (.cells #[.int .i64 0, .int .i64 0] 32)
  obtain ⟨M, hM⟩ : ∃ M, (edgR rs).length = M := ⟨_, rfl⟩
  have hcall := callsIn_wide.1 (fars_in 12 (Nat.le_refl _) b rs p ad W (h0.below BW) (by have := hR.keep BW; exact RingL.ringN (Nat.le_refl _) (RingL.grow BW.size this.ringL)) hes)
  obtain ⟨fs, hfs⟩ : ∃ fs, (edgR rs).map (farS p) = fs := ⟨_, rfl⟩
  have hfl : fs.length = M := by rw [← hfs, List.length_map, hM]
  have hfo : ∀ f ∈ fs, OkF f := by intro f hf; rw [← hfs] at hf; obtain ⟨s, hs, rfl⟩ := List.mem_map.1 hf; exact hok s hs
  rw [hfs, hM] at hcall
  rw [hM] at hes he1
  rw [hfs]
  obtain ⟨r, hr⟩ : ∃ r, leastL fs = r := ⟨_, rfl⟩
  rw [hr]
  have Hr : Hid (leastL fs = r) := hr
  clear hfs hok hr
  obtain ⟨t0, t1⟩ := blk_2 T
  go_enter Tryd.func21, Tryd.ntmps21
  go_upto_region 1 with fail
  rw [← hW]
  clear hW
  go_wp2_with fail
  refine hcall.mono ?_
  rintro e w1 ⟨v, rfl, ho, J⟩
  have ho' := ho
  rcases ho.2 with ⟨_, hz⟩ | ⟨g, c, cur, rfl, hgb, hg, hMc, hcm, _⟩
  · omega
  have zg := (Array.getElem?_eq_some_iff.1 hg).1
  have hc := ho'.cells (g := g) rfl
  have add : ∀ k : Nat, (⟨g, 0, none⟩ : Addr).add k = ⟨g, k, none⟩ := fun k => by unfold Addr.add; split <;> simp_all
  have hcell : ∀ j, j < M → w1.cell? ⟨g, j * 2, none⟩ = some (.int .i64 (frAt fs j).1) ∧ w1.cell? ⟨g, j * 2 + 1, none⟩ = some (.int .i64 (frAt fs j).2) := fun j hj => by
    obtain ⟨a0, a1⟩ := frCells_at fs j (by omega)
    have d0 := hc _ _ a0
    have d1 := hc _ _ a1
    rw [add] at d0 d1
    exact ⟨d0, d1⟩
  obtain ⟨f, fs', rfl⟩ : ∃ f fs', fs = f :: fs' := by
    cases fs with
    | nil => simp at hfl; omega
    | cons f fs' => exact ⟨f, fs', rfl⟩
  obtain ⟨d0, d1⟩ := hcell 0 (by omega)
  simp only [Nat.zero_mul, Nat.zero_add, frAt, List.getElem?_cons_zero, Option.getD_some] at d0 d1
  have i1 : (0 : Int) < (M : Int) := by omega
  have i4 : 0 < M := by omega
  have hgne : g ≠ w.heap.size + 1 := by have := blk_lt RB; omega
  have i2 : (1 : Int) ≤ (M : Int) := by omega
  have i3 : (M : Int) ≤ (c : Int) := by omega
  have zW := BW.size
  have RB1 := keep J RB
  have zR := blk_lt RB
  have hl' : Hid (fs'.length = M - 1) := by change _ = _; simp at hfl; omega
  have hcl : ∀ j, j < M - 1 → w1.cell? ⟨g, 2 + j * 2, none⟩ = some (.int .i64 (frAt fs' j).1) ∧ w1.cell? ⟨g, 2 + j * 2 + 1, none⟩ = some (.int .i64 (frAt fs' j).2) := fun j hj => by
    have := hcell (j + 1) (by omega)
    rw [show (j + 1) * 2 = 2 + j * 2 by omega] at this
    simpa [frAt] using this
  have hs1 := (h0.below BW).below J
  have B2 : Below w1.heap.size w1 w1.drew := bw_drew (bw_refl _)
  have hL := fun cap => leastRow_ok f fs' g 2 (M - 1) cap ad w1.drew (hs1.below B2) (hfo f (by simp)) (fun x hx => hfo x (by simp [hx])) hl' (by omega) zg hcl
  have e1 : ((M : Int) - 1).toNat = M - 1 := by omega
  have c1' : (c = 1) = False := by simp; omega
  have RBd := RB1
  obtain ⟨q0, q1, qf0, qf1⟩ := blkF RB1
  have hr : fs'.foldl mn f = r := Hr.out
  rw [hr] at hL
  clear hcell hc ho ho' hr
  go_wp2_with fail
  go_region_held3 (fun w' => w'.cell? ⟨g, 0, none⟩ = some (.int .i64 f.1) ∧ w'.cell? ⟨g, 1, none⟩ = some (.int .i64 f.2))
    (first | go_keep | exact ⟨(J2.cell (p := ⟨g, 0, none⟩) zg).trans d0, (J2.cell (p := ⟨g, 1, none⟩) zg).trans d1⟩ | exact ⟨cellS2 ((J2.cell (p := ⟨g, 0, none⟩) zg).trans d0) hgne, cellS2 ((J2.cell (p := ⟨g, 1, none⟩) zg).trans d1) hgne⟩)
    ((go_at_call 46; refine (hL _).mono ?_; rintro e w2 ⟨rfl, J2⟩; have RB2 : w2.heap[w.heap.size + 1]? = some (.cells #[.int .i64 0, .int .i64 0] 32 (0, 0)) := keep J2 RBd; obtain ⟨x0, x1, xf0, xf1⟩ := blkF RB2))
  have RB3 := setF2 RB2 (u0 := .int .i64 r.1) (u1 := .int .i64 r.2)
  obtain ⟨v0, v1⟩ := blk_2 RB3
  go_wp2_with fail
  exact bodyPost_ret (v := .agg #[.int .i64 r.1, .int .i64 r.2]) (by simp [results, Tryd.results21, go_sem, v0, v1]) rfl ⟨rfl, bw_set (bw_set (bw_trans (bw_trans (bw_trans BW J) B2) J2) (p := ⟨w.heap.size + 1, 0, none⟩) (by dsimp only; omega) _) (p := ⟨w.heap.size + 1, 1, none⟩) (by dsimp only; omega) _⟩
end Go.Proofs.YtlikfcfblkckaaaDoor
namespace Go.Proofs.YtlikfcfblkckaaaDoor
open Go.RowKit Go.Sort

/-- The edges that are told of a plate. -/
def plE (o : List P2) (hs : List (List P2)) : List (P2 × P2) := if plV o hs then segsL o ++ hs.flatMap segsL else []
theorem flat_len (hs : List (List P2)) (h : ∀ x ∈ hs, x.length ≤ 8) : (hs.flatMap segsL).length ≤ 8 * hs.length := by
  induction hs with
  | nil => simp
  | cons x xs ih =>
    have h1 := h x (by simp)
    have h2 := ih (fun y hy => h y (by simp [hy]))
    rw [List.flatMap_cons, List.length_append, segsL_len, List.length_cons]; omega
theorem plE_len (o : List P2) (hs : List (List P2)) : (plE o hs).length ≤ 24 := by
  unfold plE
  cases hv : plV o hs
  · simp
  · have L := (plV_iff o hs).1 hv
    have h0 := (okV_pos L.out).2
    have h1 := plV_len hv
    have h2 := flat_len hs (fun x hx => (okV_pos (L.ok x hx)).2)
    rw [if_pos rfl, List.length_append, segsL_len]; omega
theorem edgR_eq (x : RingT) (xs : List RingT) (hs : List (List P2)) (h : xs.map RingT.pts = hs) : edgR (x :: xs) = segsL x.pts ++ hs.flatMap segsL := by
  rw [← h]; simp [edgR, List.flatMap_map]
theorem ansS_mono {base base' top : Nat} {W : World} {v : Value} {ss : List (P2 × P2)} (h : AnsS base top W v ss) (hb : base' ≤ base) : AnsS base' top W v ss := by
  rcases h with h | ⟨g, c, e, h1, r⟩
  · exact .inl h
  · exact .inr ⟨g, c, e, by omega, r⟩
end Go.Proofs.YtlikfcfblkckaaaDoor
namespace Go.Proofs.YtlikfcfblkckaaaDoor
open Go.RowKit Go.Sort

theorem segsL_mem (l : List P2) (s : P2 × P2) : s ∈ segsL l ↔ ∃ i, i < l.length ∧ s = (ptAt l i, ptAt l (nxt l i)) := by
  unfold segsL; simp only [List.mem_map, List.mem_range]
  exact ⟨fun ⟨i, h, e⟩ => ⟨i, h, e.symm⟩, fun ⟨i, h, e⟩ => ⟨i, h, e.symm⟩⟩
theorem sAt_mem {ss : List (P2 × P2)} {j : Nat} (h : j < ss.length) : sAt ss j ∈ ss := by unfold sAt; rw [List.getElem?_eq_getElem h, Option.getD_some]; exact List.getElem_mem _
theorem plE_ok {o : List P2} {hs : List (List P2)} (hv : plV o hs = true) {s : P2 × P2} (h : s ∈ plE o hs) : sgP s.1 s.2 = true := by
  have L := (plV_iff o hs).1 hv
  unfold plE at h
  rw [hv, if_pos rfl, List.mem_append, List.mem_flatMap] at h
  rcases h with h | ⟨t, ht, h⟩
  · obtain ⟨i, hi, rfl⟩ := (segsL_mem _ _).1 h; exact okV_seg' L.out hi
  · obtain ⟨i, hi, rfl⟩ := (segsL_mem _ _).1 h; exact okV_seg' (L.ok t ht) hi
theorem plE_on {o : List P2} {hs : List (List P2)} (hv : plV o hs = true) (p : P2) : (∃ j, j < (plE o hs).length ∧ hasP (sAt (plE o hs) j).1 (sAt (plE o hs) j).2 p = true) ↔ (onL o p = true ∨ ∃ h ∈ hs, onL h p = true) := by
  have key : (∃ j, j < (plE o hs).length ∧ hasP (sAt (plE o hs) j).1 (sAt (plE o hs) j).2 p = true) ↔ ∃ s ∈ plE o hs, hasP s.1 s.2 p = true := by
    constructor
    · rintro ⟨j, hj, h⟩; exact ⟨_, sAt_mem hj, h⟩
    · rintro ⟨s, hs', h⟩
      obtain ⟨j, hj, rfl⟩ := List.getElem_of_mem hs'
      exact ⟨j, hj, by unfold sAt; rw [List.getElem?_eq_getElem hj, Option.getD_some]; exact h⟩
  rw [key]
  unfold plE
  rw [hv, if_pos rfl]
  constructor
  · rintro ⟨s, h, e⟩
    rw [List.mem_append, List.mem_flatMap] at h
    rcases h with h | ⟨t, ht, h⟩
    · obtain ⟨i, hi, rfl⟩ := (segsL_mem _ _).1 h; exact .inl ((onL_iff _ _).2 ⟨i, hi, e⟩)
    · obtain ⟨i, hi, rfl⟩ := (segsL_mem _ _).1 h; exact .inr ⟨t, ht, (onL_iff _ _).2 ⟨i, hi, e⟩⟩
  · rintro (h | ⟨t, ht, h⟩)
    · obtain ⟨i, hi, e⟩ := (onL_iff _ _).1 h; exact ⟨_, List.mem_append.2 (.inl ((segsL_mem _ _).2 ⟨i, hi, rfl⟩)), e⟩
    · obtain ⟨i, hi, e⟩ := (onL_iff _ _).1 h; exact ⟨_, List.mem_append.2 (.inr (List.mem_flatMap.2 ⟨t, ht, (segsL_mem _ _).2 ⟨i, hi, rfl⟩⟩)), e⟩
end Go.Proofs.YtlikfcfblkckaaaDoor
namespace Go.Proofs.YtlikfcfblkckaaaDoor
open Go.RowKit Go.Sort

theorem farS_of {p : P2} {s : P2 × P2} (hs : sgP s.1 s.2 = true) (hp : ptB p.1 p.2 = true) : farS p s = far s.1.1 s.1.2 s.2.1 s.2.2 p.1 p.2 := farV_ok hs hp
theorem farS_ok {p : P2} {s : P2 × P2} (hs : sgP s.1 s.2 = true) (hp : ptB p.1 p.2 = true) : OkF (farS p s) := by rw [farS_of hs hp]; exact far_ok hs hp
theorem plE_eq {o : List P2} {hs : List (List P2)} (hv : plV o hs = true) : plE o hs = segsL o ++ hs.flatMap segsL := by unfold plE; rw [hv, if_pos rfl]
theorem plE_ne {o : List P2} {hs : List (List P2)} (hv : plV o hs = true) : 3 ≤ (plE o hs).length := by
  have L := (plV_iff o hs).1 hv
  have := (okV_pos L.out).1
  rw [plE_eq hv, List.length_append, segsL_len]; omega
/-- How far a point is from the nearest edge. -/
def plFI (o : List P2) (hs : List (List P2)) (p : P2) : Int × Int := leastL ((plE o hs).map (farS p))
/-- The same, where all is ok; else nothing. -/
def plFV (o : List P2) (hs : List (List P2)) (p : P2) : Int × Int := if plV o hs && ptB p.1 p.2 then plFI o hs p else (0, 0)
theorem plFV_ok {o : List P2} {hs : List (List P2)} {p : P2} (hv : plV o hs = true) (hp : ptB p.1 p.2 = true) : plFV o hs p = plFI o hs p := by unfold plFV; rw [hv, hp]; rfl
theorem plFV_no {o : List P2} {hs : List (List P2)} {p : P2} (h : plV o hs = false ∨ ptB p.1 p.2 = false) : plFV o hs p = (0, 0) := by
  unfold plFV
  rcases h with h | h
  · rw [h]; rfl
  · rw [h, Bool.and_false]; rfl
theorem plE_far {o : List P2} {hs : List (List P2)} {p : P2} (hv : plV o hs = true) (hp : ptB p.1 p.2 = true) : ∀ f ∈ (plE o hs).map (farS p), OkF f := by
  intro f hf
  obtain ⟨s, h, rfl⟩ := List.mem_map.1 hf
  exact farS_ok (plE_ok hv h) hp
theorem plFI_least {o : List P2} {hs : List (List P2)} {p : P2} (hv : plV o hs = true) (hp : ptB p.1 p.2 = true) : LeastOf (plFI o hs p) ((plE o hs).map (farS p)) :=
  leastL_of (by intro e; have := plE_ne hv; have e2 := congrArg List.length e; rw [List.length_map, List.length_nil] at e2; omega) (plE_far hv hp)
theorem plFI_ok {o : List P2} {hs : List (List P2)} {p : P2} (hv : plV o hs = true) (hp : ptB p.1 p.2 = true) : OkF (plFI o hs p) := plE_far hv hp _ (plFI_least hv hp).mem
theorem plFI_mem {o : List P2} {hs : List (List P2)} {p : P2} (hv : plV o hs = true) (hp : ptB p.1 p.2 = true) : ∃ j, j < (plE o hs).length ∧ farS p (sAt (plE o hs) j) = plFI o hs p := by
  obtain ⟨s, h, e⟩ := List.mem_map.1 (plFI_least hv hp).mem
  obtain ⟨j, hj, rfl⟩ := List.getElem_of_mem h
  exact ⟨j, hj, by unfold sAt; rw [List.getElem?_eq_getElem hj, Option.getD_some]; exact e⟩
theorem plFI_le {o : List P2} {hs : List (List P2)} {p : P2} (hv : plV o hs = true) (hp : ptB p.1 p.2 = true) {j : Nat} (hj : j < (plE o hs).length) : LeF (plFI o hs p) (farS p (sAt (plE o hs) j)) :=
  (plFI_least hv hp).le _ (List.mem_map.2 ⟨_, sAt_mem hj, rfl⟩)
/-- It is 0 just on an edge. -/
theorem plFI_zero {o : List P2} {hs : List (List P2)} {p : P2} (hv : plV o hs = true) (hp : ptB p.1 p.2 = true) : plFI o hs p = (0, 1) ↔ plI o hs p = 0 := by
  rw [plI_zero hv, ← plE_on hv p]
  have z : ∀ j, j < (plE o hs).length → (farS p (sAt (plE o hs) j) = (0, 1) ↔ hasP (sAt (plE o hs) j).1 (sAt (plE o hs) j).2 p = true) := fun j hj => by
    have hs := plE_ok hv (sAt_mem hj)
    rw [farS_of hs hp, ← ok_zero (far_ok hs hp)]
    exact far_zero hs hp
  constructor
  · intro h
    obtain ⟨j, hj, e⟩ := plFI_mem hv hp
    exact ⟨j, hj, (z j hj).1 (by rw [e]; exact h)⟩
  · rintro ⟨j, hj, h⟩
    have hl := plFI_le hv hp hj
    rw [(z j hj).2 h] at hl
    have hp' := (plFI_ok hv hp).pos
    unfold LeF at hl
    exact (ok_zero (plFI_ok hv hp)).1 (by dsimp only at hl; omega)
theorem ptAt_mem {l : List P2} {i : Nat} (h : i < l.length) : ptAt l i ∈ l := by unfold ptAt; rw [List.getElem?_eq_getElem h, Option.getD_some]; exact List.getElem_mem _
theorem okV_plV {l : List P2} (h : okV l = true) : plV l [] = true := h
theorem segsL_ne {l : List P2} (h : okV l = true) (p : P2) : (segsL l).map (farS p) ≠ [] := by
  intro e
  have := congrArg List.length e
  rw [List.length_map, segsL_len, List.length_nil] at this
  have := (okV_pos h).1
  omega
/-- With a hole more it is the lesser of what it was, and how far that hole is. -/
theorem plFI_snoc {o h : List P2} {hs : List (List P2)} {p : P2} (hv : plV o (hs ++ [h]) = true) (hp : ptB p.1 p.2 = true) : plFI o (hs ++ [h]) p = mn (plFI o hs p) (plFI h [] p) := by
  have hv' : plV o hs = true := by have := plV_less hv; rwa [List.dropLast_concat] at this
  have L := (plV_iff _ _).1 hv
  have ok := L.ok h (by simp)
  have ho := plE_far hv' hp
  have hh := plE_far (okV_plV ok) hp
  have e : plE o (hs ++ [h]) = plE o hs ++ plE h [] := by rw [plE_eq hv, plE_eq hv', plE_eq (okV_plV ok)]; simp
  unfold plFI
  rw [e, List.map_append]
  refine leastL_append ?_ ?_ ho hh
  · intro e; have := plE_ne hv'; have e2 := congrArg List.length e; rw [List.length_map, List.length_nil] at e2; omega
  · intro e; have := plE_ne (okV_plV ok); have e2 := congrArg List.length e; rw [List.length_map, List.length_nil] at e2; omega
/-- What moves points, and leaves how far they are. -/
theorem segsL_map (f : P2 → P2) (l : List P2) : segsL (l.map f) = (segsL l).map fun s => (f s.1, f s.2) := by
  unfold segsL
  rw [List.length_map, List.map_map]
  refine List.map_congr_left fun i hi => ?_
  have h1 : i < l.length := List.mem_range.1 hi
  simp only [Function.comp, map_nxt]
  rw [map_at h1, map_at (nxt_lt (by omega))]
theorem plFI_map {f : P2 → P2} {o : List P2} {hs : List (List P2)} {p : P2} (hv : plV o hs = true) (hv' : plV (o.map f) (hs.map (List.map f)) = true) (hf : ∀ s ∈ plE o hs, farS (f p) (f s.1, f s.2) = farS p s) : plFI (o.map f) (hs.map (List.map f)) (f p) = plFI o hs p := by
  unfold plFI
  have e : plE (o.map f) (hs.map (List.map f)) = (plE o hs).map fun s => (f s.1, f s.2) := by
    rw [plE_eq hv, plE_eq hv', segsL_map, List.map_append, List.flatMap_map, List.map_flatMap]
    simp only [segsL_map]
  rw [e, List.map_map]
  exact congrArg leastL (List.map_congr_left fun s h => hf s h)
theorem plFI_mir {o : List P2} {hs : List (List P2)} {p : P2} (hv : plV o hs = true) (hp : ptB p.1 p.2 = true) : plFI (o.map mirP) (hs.map (List.map mirP)) (mirP p) = plFI o hs p :=
  plFI_map hv (plV_turn turns_mir hv) fun s h => by
    have hs := plE_ok hv h
    have hs' : sgP (mirP s.1) (mirP s.2) = true := mir_side.sg _ _ hs
    have hp' : ptB (mirP p).1 (mirP p).2 = true := by rw [ptB_iff] at hp ⊢; unfold mirP; dsimp only; omega
    rw [farS_of (s := (mirP s.1, mirP s.2)) hs' hp', farS_of hs hp]
    exact far_mir _ _ _ _ _ _
theorem plFI_swp {o : List P2} {hs : List (List P2)} {p : P2} (hv : plV o hs = true) (hp : ptB p.1 p.2 = true) : plFI (o.map swpP) (hs.map (List.map swpP)) (swpP p) = plFI o hs p :=
  plFI_map hv (plV_turn turns_swp hv) fun s h => by
    have hs := plE_ok hv h
    have hs' : sgP (swpP s.1) (swpP s.2) = true := swp_side.sg _ _ hs
    have hp' : ptB (swpP p).1 (swpP p).2 = true := by rw [ptB_iff] at hp ⊢; unfold swpP; dsimp only; omega
    rw [farS_of (s := (swpP s.1, swpP s.2)) hs' hp', farS_of hs hp]
    exact far_swap _ _ _ _ _ _
/-- In a plate on the other side what is in is in. -/
theorem plI_map {f : P2 → P2} (hf : ∀ l p, inI (l.map f) (f p) = inI l p) (o : List P2) (hs : List (List P2)) (p : P2) : plI (o.map f) (hs.map (List.map f)) (f p) = plI o hs p := by
  unfold plI
  rw [List.foldl_map, hf]
  simp only [hf]
end Go.Proofs.YtlikfcfblkckaaaDoor
namespace Go.Proofs.YtlikfcfblkckaaaDoor
open Go.RowKit Go.Sort

set_option maxRecDepth 100000 in
set_option maxHeartbeats 1000000 in
theorem plateFar_any (a ah : Option Addr) (la ca nh ch : Nat) (o : List P2) (hs : List (List P2)) (p : P2) (ad : Addr) (w : World) (h0 : Sent ad w) (h : Plt w a la ah nh o hs) :
    Calls Tryd.prog 6 #[.agg #[.slice a la ca, .slice ah nh ch], .agg #[.int .i64 p.1, .int .i64 p.2]] w fun e W' => e = .returned (.agg #[.int .i64 (plFV o hs p).1, .int .i64 (plFV o hs p).2]) ∧ Below w.heap.size w W' := by
  obtain ⟨W, hW, BW, TP, T, RB⟩ := boxes3 w (.cells #[.slice a la ca, .slice ah nh ch] 26) (.cells #[.int .i64 p.1, .int .i64 p.2] 28) (.cells #[.int .i64 0, .int .i64 0] 32)
  have hh := h.below BW
  obtain ⟨t0, t1⟩ := blk_2 TP
  have zP := blk_lt TP
  have zR := blk_lt RB
  have zB := BW.size
  cases hv : plV o hs
  · have e1 : Hid (plFV o hs p = (0, 0)) := plFV_no (.inl hv)
    go_enter Tryd.func6, Tryd.ntmps6
    go_upto_region 1 with fail
    rw [← hW]
    clear hW
    go_wp2_with fail
    refine (board_any a ah la ca nh ch o hs _ hh).mono ?_
    rw [hv]
    rintro e w1 ⟨q, rfl, J, _⟩
    replace RB := keep J RB
    obtain ⟨q0, q1, qf0, qf1⟩ := blkF RB
    have RB2 := setF2 RB (u0 := .int .i64 0) (u1 := .int .i64 0)
    obtain ⟨v0, v1⟩ := blk_2 RB2
    go_wp2_with fail
    exact bodyPost_ret (v := .agg #[.int .i64 0, .int .i64 0]) (by simp [results, Tryd.results6, go_sem, v0, v1]) rfl ⟨by rw [e1.out], bw_set (bw_set (bw_trans BW J) (p := ⟨w.heap.size + 2, 0, none⟩) (by dsimp only; omega) _) (p := ⟨w.heap.size + 2, 1, none⟩) (by dsimp only; omega) _⟩
  cases hp : ptB p.1 p.2
  · have e1 : Hid (plFV o hs p = (0, 0)) := plFV_no (.inr hp)
    go_enter Tryd.func6, Tryd.ntmps6
    go_upto_region 1 with fail
    rw [← hW]
    clear hW
    go_wp2_with fail
    refine (board_any a ah la ca nh ch o hs _ hh).mono ?_
    rw [hv]
    rintro e w1 ⟨q, rfl, J, _⟩
    replace T := keep J T
    clear t0 t1
    obtain ⟨t0, t1⟩ := blk_2 T
    go_wp2_with fail
    refine (pt_raw p _).mono ?_
    rw [hp]
    rintro e w2 ⟨rfl, J2⟩
    replace RB := keep (bw_trans J J2) RB
    obtain ⟨q0, q1, qf0, qf1⟩ := blkF RB
    have RB2 := setF2 RB (u0 := .int .i64 0) (u1 := .int .i64 0)
    obtain ⟨v0, v1⟩ := blk_2 RB2
    go_wp2_with fail
    exact bodyPost_ret (v := .agg #[.int .i64 0, .int .i64 0]) (by simp [results, Tryd.results6, go_sem, v0, v1]) rfl ⟨by rw [e1.out], bw_set (bw_set (bw_trans (bw_trans BW J) J2) (p := ⟨w.heap.size + 2, 0, none⟩) (by dsimp only; omega) _) (p := ⟨w.heap.size + 2, 1, none⟩) (by dsimp only; omega) _⟩
  · have e1 : Hid (plFV o hs p = plFI o hs p) := plFV_ok hv hp
    have L := (plV_iff o hs).1 hv
    have n3 := plE_ne hv
    have n24 := plE_len o hs
    have hfo : ∀ s ∈ plE o hs, OkF (farS p s) := fun s hs => farS_ok (plE_ok hv hs) hp
    go_enter Tryd.func6, Tryd.ntmps6
    go_upto_region 1 with fail
    rw [← hW]
    clear hW
    go_wp2_with fail
    refine (board_any a ah la ca nh ch o hs _ hh).mono ?_
    rintro e w1 ⟨q, rfl, J, hR⟩
    obtain ⟨b, xs, rfl, hR, hx⟩ := hR hv
    rw [hv]
    replace T := keep J T
    clear t0 t1
    obtain ⟨t0, t1⟩ := blk_2 T
    go_wp2_with fail
    refine (pt_raw p _).mono ?_
    rw [hp]
    rintro e w2 ⟨rfl, J2⟩
    replace T := keep J2 T
    clear t0 t1
    obtain ⟨t0, t1⟩ := blk_2 T
    have hE : edgR (⟨a, la, ca, o⟩ :: xs) = plE o hs := by rw [edgR_eq _ _ hs hx, plE_eq hv]
    have hcall := boardFar_any b (⟨a, la, ca, o⟩ :: xs) p ad w2 (h0.below (bw_trans (bw_trans BW J) J2)) (RingL.ringN (Nat.le_refl _) ((hR.below J2 (Nat.le_refl _)).grow J2.size)) (by rw [hE]; omega) (by rw [hE]; omega) (by rw [hE]; exact hfo)
    rw [hE, show leastL ((plE o hs).map (farS p)) = plFI o hs p from rfl, ← e1.out] at hcall
    clear hE hR hfo
    go_wp2_with fail
    refine hcall.mono ?_
    rintro e w3 ⟨rfl, J3⟩
    replace RB := keep (bw_trans (bw_trans J J2) J3) RB
    obtain ⟨q0, q1, qf0, qf1⟩ := blkF RB
    have RB2 := setF2 RB (u0 := .int .i64 (plFV o hs p).1) (u1 := .int .i64 (plFV o hs p).2)
    obtain ⟨v0, v1⟩ := blk_2 RB2
    go_wp2_with fail
    exact bodyPost_ret (v := .agg #[.int .i64 (plFV o hs p).1, .int .i64 (plFV o hs p).2]) (by simp [results, Tryd.results6, go_sem, v0, v1]) rfl ⟨rfl, bw_set (bw_set (bw_trans (bw_trans (bw_trans BW J) J2) J3) (p := ⟨w.heap.size + 2, 0, none⟩) (by dsimp only; omega) _) (p := ⟨w.heap.size + 2, 1, none⟩) (by dsimp only; omega) _⟩
end Go.Proofs.YtlikfcfblkckaaaDoor
namespace Go.Proofs.YtlikfcfblkckaaaDoor
open Go.RowKit Go.Shelf Go.Sort
attribute [local go_sem] Oper.semAt_some

/-- The cells of the edges that have come. -/
def segF (pts : List P2) (pre : List (Fin pts.length)) : List Value := pre.flatMap fun k => seg4 (ptAt pts k.1) (ptAt pts (nxt pts k.1))
theorem segF_snoc (pts : List P2) (pre : List (Fin pts.length)) (k : Fin pts.length) : segF pts (pre ++ [k]) = segF pts pre ++ seg4 (ptAt pts k.1) (ptAt pts (nxt pts k.1)) := by simp [segF]
theorem segR (pts : List P2) (n : Nat) : ((List.range n).flatMap fun k => seg4 (ptAt pts k) (ptAt pts (nxt pts k))) = segCells pts n := by
  induction n with
  | zero => rfl
  | succ n ih => rw [List.range_succ, List.flatMap_append, ih]; simp [segCells]
theorem segF_all (pts : List P2) : segF pts (List.finRange pts.length) = segCells pts pts.length := by
  rw [← segR]
  have : List.range pts.length = (List.finRange pts.length).map fun k => k.1 := by
    apply List.ext_getElem
    · simp
    · intro i h1 h2; simp
  rw [this, List.flatMap_map]; rfl
theorem own_base {W : World} {base base' : Nat} {e : TypeId} {size n : Nat} {v : Value} {xs : List Value} (h : W.ownsRow base e size v n xs) (hb : base' ≤ base) : W.ownsRow base' e size v n xs :=
  ⟨h.1, h.2.imp id fun ⟨g, c, cur, e1, h1, r⟩ => ⟨g, c, cur, e1, Nat.le_trans hb h1, r⟩⟩
/-- What LoopEdges answers. -/
def EdgesAns (base : Nat) (pts : List P2) (len : Nat) (e : Ending) (W' : World) : Prop :=
  (okV pts = false ∧ e = .returned (.slice none 0 0)) ∨ (okV pts = true ∧ ∃ vv, e = .returned vv ∧ W'.ownsRow base 98 4 vv len (segCells pts len))
/-- What the specification's answers. -/
def SEdgesAns (base : Nat) (pts : List P2) (len : Nat) (e : Ending) (W' : World) : Prop :=
  ∃ vv, e = .returned vv ∧ W'.ownsRow base 98 4 vv (if okV pts then len else 0) (segCells pts (if okV pts then len else 0))
end Go.Proofs.YtlikfcfblkckaaaDoor
namespace Go.Proofs.YtlikfcfblkckaaaDoor
open Go.RowKit Go.Sort

end Go.Proofs.YtlikfcfblkckaaaDoor
namespace Go.Proofs.YtlikfcfblkckaaaDoor
open Go.RowKit Go.Shelf Go.Sort
attribute [local go_sem] Oper.semAt_some

end Go.Proofs.YtlikfcfblkckaaaDoor
namespace Go.Proofs.YtlikfcfblkckaaaDoor
open Go.RowKit Go.Sort

/-- The edges that are told of a loop. -/
def edgV (l : List P2) : List (P2 × P2) := if okV l then segsL l else []
theorem edgV_len (l : List P2) : (edgV l).length ≤ 8 := by
  unfold edgV
  cases h : okV l
  · simp
  · have := ((okV_iff l).1 h).hi; rw [if_pos rfl, segsL_len]; omega
theorem PtBlk.own {W : World} {g c n : Nat} {l : List P2} (h : PtBlk W g c l n) : Own W g (c * 2) 28 := by obtain ⟨cur, h, hs, _⟩ := h; exact ⟨cur, h, hs⟩
end Go.Proofs.YtlikfcfblkckaaaDoor
namespace Go.Proofs.YtlikfcfblkckaaaDoor
open Go.RowKit Go.Shelf Go.Sort

end Go.Proofs.YtlikfcfblkckaaaDoor
namespace Go.Proofs.YtlikfcfblkckaaaDoor
open Go.RowKit Go.Sort

theorem okV_pt {pts : List P2} (h : okV pts = true) {i : Nat} (hi : i < pts.length) : ptB (ptAt pts i).1 (ptAt pts i).2 = true := (sgP_pt (((okV_iff pts).1 h).seg i hi)).1
theorem sCross_raw (a b c : P2) (ha : ptB a.1 a.2 = true) (hb : ptB b.1 b.2 = true) (hc : ptB c.1 c.2 = true) (w : World) :
    Calls Tryd.prog 53 #[.agg #[.int .i64 a.1, .int .i64 a.2], .agg #[.int .i64 b.1, .int .i64 b.2], .agg #[.int .i64 c.1, .int .i64 c.2]] w fun e w' => e = .returned (.int .i64 (crs a.1 a.2 b.1 b.2 c.1 c.2)) ∧ Below w.heap.size w w' := sCross_any _ _ _ _ _ _ w ha hb hc
theorem fan_bd {pts : List P2} (h : okV pts = true) (k : Nat) (hk : k < pts.length) : -(162 * k) ≤ fan pts k ∧ fan pts k ≤ 162 * k := by
  induction k with
  | zero => simp [fan]
  | succ k ih =>
    have i := ih (by omega)
    cases k with
    | zero => simp [fan]
    | succ k =>
      have e : fan pts (k + 1 + 1) = fan pts (k + 1) + triE pts (k + 1) := rfl
      have b := crs_bd (okV_pt h (i := 0) (by omega)) (okV_pt h (i := k + 1) (by omega)) (okV_pt h (i := k + 1 + 1) hk)
      have b' : -162 ≤ triE pts (k + 1) ∧ triE pts (k + 1) ≤ 162 := b
      rw [e]; omega
end Go.Proofs.YtlikfcfblkckaaaDoor
namespace Go.Proofs.YtlikfcfblkckaaaDoor
open Go.RowKit Go.Sort

theorem sPt_raw (p : P2) (w : World) : Calls Tryd.prog 9 #[.agg #[.int .i64 p.1, .int .i64 p.2]] w fun e w' => e = .returned (.bool (ptB p.1 p.2)) ∧ Below w.heap.size w w' := sPt_any _ _ w
theorem inI_on {pts : List P2} {p : P2} {i : Nat} (hi : i < pts.length) (h : onE pts p i = true) : inI pts p = 0 := by
  unfold inI; rw [if_pos]; rw [List.any_eq_true]; exact ⟨i, List.mem_range.2 hi, h⟩
theorem inI_off {pts : List P2} {p : P2} (h : ∀ i, i < pts.length → onE pts p i = false) : inI pts p = whereK pts p pts.length := by
  unfold inI; rw [if_neg]; rw [List.any_eq_true]; rintro ⟨i, hi, e⟩; rw [h i (List.mem_range.1 hi)] at e; cases e
theorem regrow_none {W W' : World} {g j : Nat} {x0 x1 x2 x3 : Value} (h : W.cell? ⟨g, j * 4, none⟩ = some x0 ∧ W.cell? ⟨g, j * 4 + 1, none⟩ = some x1 ∧ W.cell? ⟨g, j * 4 + 2, none⟩ = some x2 ∧ W.cell? ⟨g, j * 4 + 3, none⟩ = some x3) (J : Below W.heap.size W W') (hg : g < W.heap.size) :
    W'.cell? ⟨g, j * 4, none⟩ = some x0 ∧ W'.cell? ⟨g, j * 4 + 1, none⟩ = some x1 ∧ W'.cell? ⟨g, j * 4 + 2, none⟩ = some x2 ∧ W'.cell? ⟨g, j * 4 + 3, none⟩ = some x3 :=
  ⟨(J.cell (p := ⟨g, j * 4, none⟩) hg).trans h.1, (J.cell (p := ⟨g, j * 4 + 1, none⟩) hg).trans h.2.1, (J.cell (p := ⟨g, j * 4 + 2, none⟩) hg).trans h.2.2.1, (J.cell (p := ⟨g, j * 4 + 3, none⟩) hg).trans h.2.2.2⟩
set_option maxRecDepth 100000 in
set_option maxHeartbeats 8000000 in
theorem sInI_ok (b off len cap : Nat) (pts : List P2) (p : P2) (hok : okV pts = true) (hp : ptB p.1 p.2 = true) (hl : pts.length = len) (w : World) (hb : b < w.heap.size)
    (hc : ∀ j, j < len → w.cell? ⟨b, off + j * 2, none⟩ = some (.int .i64 (ptAt pts j).1) ∧ w.cell? ⟨b, off + j * 2 + 1, none⟩ = some (.int .i64 (ptAt pts j).2)) :
    Calls Tryd.prog 25 #[.slice (some ⟨b, off, none⟩) len cap, .agg #[.int .i64 p.1, .int .i64 p.2]] w fun e w' => e = .returned (.int .i64 (inI pts p)) ∧ Below w.heap.size w w' := by
  have h3 := ((okV_iff pts).1 hok).lo
  have h8 := ((okV_iff pts).1 hok).hi
  have hS : Hid (∀ i, i < len → sgP (ptAt pts i) (ptAt pts (nxt pts i)) = true) := fun i hi => ((okV_iff pts).1 hok).seg i (by omega)
  have hl8 : 3 ≤ len ∧ len ≤ 8 := by omega
  have hcall := sEdges_ok b off len cap pts (w.alloc (.cells #[.int .i64 p.1, .int .i64 p.2] 28)) hl (by omega) (by omega) (by simp; omega) (fun j hj => by
    have := hc j hj
    exact ⟨(((Below.refl _ w).alloc (Nat.le_refl _) _).cell (p := ⟨b, off + j * 2, none⟩) hb).trans this.1, (((Below.refl _ w).alloc (Nat.le_refl _) _).cell (p := ⟨b, off + j * 2 + 1, none⟩) hb).trans this.2⟩)
  have LP : Lies w.heap.size #[.int .i64 p.1, .int .i64 p.2] 28 (w.alloc (.cells #[.int .i64 p.1, .int .i64 p.2] 28)) := Lies.new w _ _
  have HL : Hid (pts.length = len) := hl
  clear hok h3 h8 hl hc
  go_enter Tryd.func25, Tryd.ntmps25
  go_wp2_with (go_at_call 49; refine hcall.mono ?_; rintro e w1 ⟨v, rfl, hown, J0⟩)
  have hR : ∃ g cap', v = .slice (some ⟨g, 0, none⟩) len cap' ∧ g < w1.heap.size ∧ SegRow w1 g len pts := by
    have hown' := hown
    rcases hown.2 with ⟨_, h0⟩ | ⟨g, cap', cur, rfl, hg1, hg2, _⟩
    · omega
    · exact ⟨g, cap', rfl, (Array.getElem?_eq_some_iff.1 hg2).1, SegRow.of_owns hown'⟩
  obtain ⟨g, cap', rfl, hg, hR⟩ := hR
  replace LP := LP.below J0
  have B1 : Below w.heap.size w w1 := bw_trans (by repeat (first | exact bw_refl _ | assumption | apply bw_drewN | apply bw_drew | apply bw_alloc | refine bw_set ?_ (by simp) _)) J0
  clear hown hcall J0
  go_wp2_with fail
  go_loopw [5, 7] (fun s i wr => ∃ k : Nat, k ≤ len ∧ i = .int .i64 k ∧ s = .int .i64 (whereK pts p k) ∧ (∀ j, j < k → onE pts p j = false) ∧ Below w1.heap.size w1 wr) (fun _ i _ => len - (intOf i).toNat)
  case atStart => exact ⟨0, by omega, rfl, rfl, fun j hj => by omega, bw_refl _⟩
  case round =>
    obtain ⟨k, hk, rfl, rfl, hoff, hnx⟩ := hrel
    by_cases hlt : k < len
    case neg =>
      obtain rfl : k = len := by omega
      have e1 : Hid (inI pts p = whereK pts p k) := by change _ = _; rw [inI_off (by rw [HL.out]; exact hoff), HL.out]
      go_wp2_with fail
      go_ret
      exact ⟨ret_int e1.out.symm, bw_trans B1 hnx⟩
    case pos =>
      have sk := hS.out k hlt
      obtain ⟨pa, pb⟩ := sgP_pt sk
      have i0 : (0 : Int) ≤ (k : Int) := Int.natCast_nonneg _
      have i1 : (k : Int) < (len : Int) := by omega
      have q1 : IntKind.i64.wrap ((k : Int) + 1) = (k : Int) + 1 := wrap_small (by omega) (by omega)
      have hRk := (hR.below hnx hg) k hlt
      obtain ⟨d0, d1, d2, d3⟩ := regrow4 hRk
      have LPk := LP.below hnx
      obtain ⟨u0, u1⟩ := reg_2 LPk
      have wpm := whereK_pm pts p k
      cases hon : onE pts p k
      case true =>
        have e1 : Hid (inI pts p = 0) := inI_on (by rw [HL.out]; exact hlt) hon
        have X1 : Hid (∀ w, Calls Tryd.prog 51 #[.agg #[.int .i64 (ptAt pts k).1, .int .i64 (ptAt pts k).2, .int .i64 (ptAt pts (nxt pts k)).1, .int .i64 (ptAt pts (nxt pts k)).2], .agg #[.int .i64 p.1, .int .i64 p.2]] w fun e w' => e = .returned (.bool true) ∧ Below w.heap.size w w') := fun w => by
          have := sHas_raw _ _ _ sk hp w; unfold onE at hon; rwa [hon] at this
        go_wp2_with fail
        refine wp_region_quiet_below (by kernel_rfl) (by kernel_rfl) ?_
        repeat (first | go_big_quiet_step (first | (go_at_call 51; with_reducible exact Calls.regrown_of (X1.out _))))
        refine wpQuiet_nil ?_
        intro _ hw'
        obtain ⟨⟨dq, osq⟩, hw''⟩ := hw'
        subst hw''
        have J := below_regrown wr dq osq
        generalize grow (redrawn wr dq) osq = w2 at J ⊢
        go_wp2_with fail
        go_ret
        exact ⟨ret_int e1.out.symm, bw_trans (bw_trans B1 hnx) J⟩
      case false =>
        have X1 : Hid (∀ w, Calls Tryd.prog 51 #[.agg #[.int .i64 (ptAt pts k).1, .int .i64 (ptAt pts k).2, .int .i64 (ptAt pts (nxt pts k)).1, .int .i64 (ptAt pts (nxt pts k)).2], .agg #[.int .i64 p.1, .int .i64 p.2]] w fun e w' => e = .returned (.bool false) ∧ Below w.heap.size w w') := fun w => by
          have := sHas_raw _ _ _ sk hp w; unfold onE at hon; rwa [hon] at this
        have step : ∀ (s : Int) (X : World), Below w1.heap.size w1 X → whereK pts p (k + 1) = s → ∃ k' : Nat, k' ≤ len ∧ Value.int .i64 ((k : Int) + 1) = .int .i64 k' ∧ Value.int .i64 s = .int .i64 (whereK pts p k') ∧ (∀ j, j < k' → onE pts p j = false) ∧ Below w1.heap.size w1 X :=
          fun s X hX hs => ⟨k + 1, by omega, by simp, by rw [hs], fun j hj => by rcases Nat.lt_or_ge j k with h | h; exact hoff j h; obtain rfl : j = k := (by omega); exact hon, hX⟩
        have hyes : passP (ptAt pts k) (ptAt pts (nxt pts k)) p = true → Hid (whereK pts p (k + 1) = - whereK pts p k) := fun h => by change _ = _; simp only [whereK]; unfold passE; rw [h]; rfl
        have hno : passP (ptAt pts k) (ptAt pts (nxt pts k)) p = false → Hid (whereK pts p (k + 1) = whereK pts p k) := fun h => by change _ = _; simp only [whereK]; unfold passE; rw [h]; rfl
        clear hon hoff
        generalize whereK pts p k = u at *
        generalize ptAt pts k = a at *
        generalize ptAt pts (nxt pts k) = b at *
        have nu : IntKind.i64.wrap (-u) = -u := wrap_small (by omega) (by omega)
        go_wp2_with fail
        refine wp_region_quiet_below (by kernel_rfl) (by kernel_rfl) ?_
        repeat (first | go_big_quiet_step (first | (go_at_call 51; with_reducible exact Calls.regrown_of (X1.out _))))
        refine wpQuiet_nil ?_
        intro _ hw'
        obtain ⟨⟨dq, osq⟩, hw''⟩ := hw'
        subst hw''
        have J := below_regrown wr dq osq
        generalize grow (redrawn wr dq) osq = w2 at J ⊢
        have hn2 := bw_trans hnx J
        have hR2 := regrow_none hRk J (by have := hnx.size; omega)
        obtain ⟨d0', d1', d2', d3'⟩ := hR2
        obtain ⟨p0, p1⟩ := blk_2 (LPk.below J)
        have zg : g < w2.heap.size := by have := hn2.size; omega
        have zp := (LPk.below J).lt
        clear J d0 d1 d2 d3 u0 u1 hRk LPk X1
        by_cases hgt : b.2 < a.2
        · have e1 : Hid (passP a b p = (decide (b.2 ≤ p.2) && decide (p.2 < a.2) && decide (0 < crs b.1 b.2 a.1 a.2 p.1 p.2))) := by
            change _ = _; unfold passP; rw [if_pos hgt]
          by_cases c1 : b.2 ≤ p.2
          · by_cases c2 : p.2 < a.2
            · by_cases c3 : 0 < crs b.1 b.2 a.1 a.2 p.1 p.2
              · have e2 := hyes (by rw [e1.out, decide_eq_true c1, decide_eq_true c2, decide_eq_true c3]; rfl)
                go_wp2_with (go_at_call 53; refine (sCross_raw _ _ _ pb pa hp _).mono ?_; rintro e w3 ⟨rfl, J⟩)
                go_roundw
                case rel => exact step _ _ (bw_trans (by repeat (first | exact hn2 | apply bw_alloc | refine bw_set ?_ (by simp; omega) _)) J) e2.out
                case measure => simp [intOf]; omega
              · have e2 := hno (by rw [e1.out, decide_eq_true c1, decide_eq_true c2, decide_eq_false c3]; rfl)
                go_wp2_with (go_at_call 53; refine (sCross_raw _ _ _ pb pa hp _).mono ?_; rintro e w3 ⟨rfl, J⟩)
                go_roundw
                case rel => exact step _ _ (bw_trans (by repeat (first | exact hn2 | apply bw_alloc | refine bw_set ?_ (by simp; omega) _)) J) e2.out
                case measure => simp [intOf]; omega
            · have e2 := hno (by rw [e1.out, decide_eq_true c1, decide_eq_false c2]; rfl)
              go_wp2_with fail
              go_roundw
              case rel => exact step _ _ (by repeat (first | exact hn2 | apply bw_alloc | refine bw_set ?_ (by simp; omega) _)) e2.out
              case measure => simp [intOf]; omega
          · have e2 := hno (by rw [e1.out, decide_eq_false c1]; rfl)
            go_wp2_with fail
            go_roundw
            case rel => exact step _ _ (by repeat (first | exact hn2 | apply bw_alloc | refine bw_set ?_ (by simp; omega) _)) e2.out
            case measure => simp [intOf]; omega
        · have e1 : Hid (passP a b p = (decide (a.2 ≤ p.2) && decide (p.2 < b.2) && decide (0 < crs a.1 a.2 b.1 b.2 p.1 p.2))) := by
            change _ = _; unfold passP; rw [if_neg hgt]
          by_cases c1 : a.2 ≤ p.2
          · by_cases c2 : p.2 < b.2
            · by_cases c3 : 0 < crs a.1 a.2 b.1 b.2 p.1 p.2
              · have e2 := hyes (by rw [e1.out, decide_eq_true c1, decide_eq_true c2, decide_eq_true c3]; rfl)
                go_wp2_with (go_at_call 53; refine (sCross_raw _ _ _ pa pb hp _).mono ?_; rintro e w3 ⟨rfl, J⟩)
                go_roundw
                case rel => exact step _ _ (bw_trans (by repeat (first | exact hn2 | apply bw_alloc | refine bw_set ?_ (by simp; omega) _)) J) e2.out
                case measure => simp [intOf]; omega
              · have e2 := hno (by rw [e1.out, decide_eq_true c1, decide_eq_true c2, decide_eq_false c3]; rfl)
                go_wp2_with (go_at_call 53; refine (sCross_raw _ _ _ pa pb hp _).mono ?_; rintro e w3 ⟨rfl, J⟩)
                go_roundw
                case rel => exact step _ _ (bw_trans (by repeat (first | exact hn2 | apply bw_alloc | refine bw_set ?_ (by simp; omega) _)) J) e2.out
                case measure => simp [intOf]; omega
            · have e2 := hno (by rw [e1.out, decide_eq_true c1, decide_eq_false c2]; rfl)
              go_wp2_with fail
              go_roundw
              case rel => exact step _ _ (by repeat (first | exact hn2 | apply bw_alloc | refine bw_set ?_ (by simp; omega) _)) e2.out
              case measure => simp [intOf]; omega
          · have e2 := hno (by rw [e1.out, decide_eq_false c1]; rfl)
            go_wp2_with fail
            go_roundw
            case rel => exact step _ _ (by repeat (first | exact hn2 | apply bw_alloc | refine bw_set ?_ (by simp; omega) _)) e2.out
            case measure => simp [intOf]; omega
end Go.Proofs.YtlikfcfblkckaaaDoor
namespace Go.Proofs.YtlikfcfblkckaaaDoor
open Go.RowKit Go.Sort

set_option maxRecDepth 100000 in
set_option maxHeartbeats 8000000 in
theorem sApart_ok (b1 off1 len1 cap1 b2 off2 len2 cap2 : Nat) (l1 l2 : List P2) (ok1 : okV l1 = true) (ok2 : okV l2 = true) (hl1 : l1.length = len1) (hl2 : l2.length = len2) (w : World) (hb1 : b1 < w.heap.size) (hb2 : b2 < w.heap.size)
    (hc1 : ∀ j, j < len1 → w.cell? ⟨b1, off1 + j * 2, none⟩ = some (.int .i64 (ptAt l1 j).1) ∧ w.cell? ⟨b1, off1 + j * 2 + 1, none⟩ = some (.int .i64 (ptAt l1 j).2))
    (hc2 : ∀ j, j < len2 → w.cell? ⟨b2, off2 + j * 2, none⟩ = some (.int .i64 (ptAt l2 j).1) ∧ w.cell? ⟨b2, off2 + j * 2 + 1, none⟩ = some (.int .i64 (ptAt l2 j).2)) :
    Calls Tryd.prog 26 #[.slice (some ⟨b1, off1, none⟩) len1 cap1, .slice (some ⟨b2, off2, none⟩) len2 cap2] w fun e w' => e = .returned (.bool (apL l1 l2)) ∧ Below w.heap.size w w' := by
  have h31 := okV_pos ok1
  have h32 := okV_pos ok2
  have S1 : Hid (∀ i, i < len1 → sgP (ptAt l1 i) (ptAt l1 (nxt l1 i)) = true) := fun i hi => ((okV_iff l1).1 ok1).seg i (by omega)
  have S2 : Hid (∀ i, i < len2 → sgP (ptAt l2 i) (ptAt l2 (nxt l2 i)) = true) := fun i hi => ((okV_iff l2).1 ok2).seg i (by omega)
  have L1 : Hid (l1.length = len1) := hl1
  have L2 : Hid (l2.length = len2) := hl2
  have b1l : 3 ≤ len1 ∧ len1 ≤ 8 := by omega
  have b2l : 3 ≤ len2 ∧ len2 ≤ 8 := by omega
  clear ok1 ok2 h31 h32 hl1 hl2
  go_enter Tryd.func26, Tryd.ntmps26
  go_wp2_with fail
  refine (sEdges_ok b1 off1 len1 cap1 l1 w L1 (by omega) (by omega) hb1 hc1).mono ?_
  rintro e w1 ⟨v1, rfl, hown1, J1⟩
  have hR : ∃ g cap', v1 = .slice (some ⟨g, 0, none⟩) len1 cap' ∧ g < w1.heap.size ∧ SegRow w1 g len1 l1 := by
    have hown' := hown1
    rcases hown1.2 with ⟨_, h0⟩ | ⟨g, cap', cur, rfl, hg1, hg2, _⟩
    · omega
    · exact ⟨g, cap', rfl, (Array.getElem?_eq_some_iff.1 hg2).1, SegRow.of_owns hown'⟩
  obtain ⟨g1, c1, rfl, hg1, R1⟩ := hR
  clear hown1
  go_wp2_with fail
  refine (sEdges_ok b2 off2 len2 cap2 l2 w1 L2 (by omega) (by omega) (by have := J1.size; omega) (fun j hj => ⟨(J1.cell (p := ⟨b2, off2 + j * 2, none⟩) hb2).trans (hc2 j hj).1, (J1.cell (p := ⟨b2, off2 + j * 2 + 1, none⟩) hb2).trans (hc2 j hj).2⟩)).mono ?_
  rintro e w2 ⟨v2, rfl, hown2, J2⟩
  have hR : ∃ g cap', v2 = .slice (some ⟨g, 0, none⟩) len2 cap' ∧ g < w2.heap.size ∧ SegRow w2 g len2 l2 := by
    have hown' := hown2
    rcases hown2.2 with ⟨_, h0⟩ | ⟨g, cap', cur, rfl, hg1, hg2, _⟩
    · omega
    · exact ⟨g, cap', rfl, (Array.getElem?_eq_some_iff.1 hg2).1, SegRow.of_owns hown'⟩
  obtain ⟨g2, c2, rfl, hg2, R2⟩ := hR
  replace R1 := R1.below J2 hg1
  have hg1' : g1 < w2.heap.size := by have := J2.size; omega
  have K2 := bw_trans J1 J2
  clear hown2 J1 J2 hc1 hc2
  go_wp2_with fail
  go_loopw [7] (fun i wr => ∃ k : Nat, k ≤ len1 ∧ i = .int .i64 k ∧ (∀ j, j < k → ∀ q, q < len2 → meetP (ptAt l1 j) (ptAt l1 (nxt l1 j)) (ptAt l2 q) (ptAt l2 (nxt l2 q)) = false) ∧ Below w2.heap.size w2 wr) (fun i _ => len1 - (intOf i).toNat)
  case atStart => exact ⟨0, Nat.zero_le _, rfl, fun j hj => by omega, bw_refl _⟩
  case round =>
    obtain ⟨i, hi, rfl, hall, hnx⟩ := hrel
    by_cases hlt : i < len1
    case neg =>
      obtain rfl : i = len1 := by omega
      have e1 : Hid (apL l1 l2 = true) := (apL_iff l1 l2).2 (fun j hj q hq => hall j (by rw [L1.out] at hj; exact hj) q (by rw [L2.out] at hq; exact hq))
      clear hall
      go_wp2_with fail
      go_ret
      exact ⟨ret_bool e1.out.symm, bw_trans K2 hnx⟩
    case pos =>
      have si := S1.out i hlt
      go_wp2_with fail
      go_loopw [8] (fun k wr => ∃ k' : Nat, k' ≤ len2 ∧ k = .int .i64 k' ∧ (∀ q, q < k' → meetP (ptAt l1 i) (ptAt l1 (nxt l1 i)) (ptAt l2 q) (ptAt l2 (nxt l2 q)) = false) ∧ Below w2.heap.size w2 wr) (fun k _ => len2 - (intOf k).toNat)
      case atStart => exact ⟨0, Nat.zero_le _, rfl, fun j hj => by omega, hnx⟩
      case round =>
        obtain ⟨k, hk, rfl, hrow, hny⟩ := hrel
        by_cases hlt2 : k < len2
        case neg =>
          obtain rfl : k = len2 := by omega
          go_wp2_with fail
          go_roundw
          case rel => exact ⟨i + 1, by omega, by simp, fun j hj q hq => by rcases Nat.lt_or_ge j i with h | h; exact hall j h q hq; obtain rfl : j = i := (by omega); exact hrow q hq, hny⟩
          case measure => simp [intOf]; omega
        case pos =>
          have sk := S2.out k hlt2
          have i0 : (0 : Int) ≤ (i : Int) := Int.natCast_nonneg _
          have i1 : (i : Int) < (len1 : Int) := by omega
          have j0 : (0 : Int) ≤ (k : Int) := Int.natCast_nonneg _
          have j1 : (k : Int) < (len2 : Int) := by omega
          obtain ⟨d0, d1, d2, d3⟩ := regrow4 ((R1.below hny hg1') i hlt)
          obtain ⟨f0, f1, f2, f3⟩ := regrow4 ((R2.below hny hg2) k hlt2)
          cases hme : meetP (ptAt l1 i) (ptAt l1 (nxt l1 i)) (ptAt l2 k) (ptAt l2 (nxt l2 k))
          · have X1 : Hid (∀ w, Calls Tryd.prog 52 #[.agg #[.int .i64 (ptAt l1 i).1, .int .i64 (ptAt l1 i).2, .int .i64 (ptAt l1 (nxt l1 i)).1, .int .i64 (ptAt l1 (nxt l1 i)).2], .agg #[.int .i64 (ptAt l2 k).1, .int .i64 (ptAt l2 k).2, .int .i64 (ptAt l2 (nxt l2 k)).1, .int .i64 (ptAt l2 (nxt l2 k)).2]] w fun e w' => e = .returned (.bool false) ∧ Below w.heap.size w w') := fun w => by
              have := sMeet_raw _ _ _ _ si sk w; rwa [hme] at this
            have hrow' : Hid (∀ q, q < k + 1 → meetP (ptAt l1 i) (ptAt l1 (nxt l1 i)) (ptAt l2 q) (ptAt l2 (nxt l2 q)) = false) := fun q hq => by rcases Nat.lt_or_ge q k with h | h; exact hrow q h; obtain rfl : q = k := (by omega); exact hme
            clear hrow hme
            go_wp2_with fail
            refine wp_region_quiet_below (by kernel_rfl) (by kernel_rfl) ?_
            repeat (first | go_big_quiet_step (first | (go_at_call 52; with_reducible exact Calls.regrown_of (X1.out _))))
            refine wpQuiet_nil ?_
            intro _ hw'
            obtain ⟨⟨dq, osq⟩, hw''⟩ := hw'
            subst hw''
            have J := below_regrown wr dq osq
            generalize grow (redrawn wr dq) osq = w5 at J ⊢
            go_wp2_with fail
            go_roundw
            case rel => exact ⟨k + 1, by omega, by simp, hrow'.out, bw_trans hny J⟩
            case measure => simp [intOf]; omega
          · have X1 : Hid (∀ w, Calls Tryd.prog 52 #[.agg #[.int .i64 (ptAt l1 i).1, .int .i64 (ptAt l1 i).2, .int .i64 (ptAt l1 (nxt l1 i)).1, .int .i64 (ptAt l1 (nxt l1 i)).2], .agg #[.int .i64 (ptAt l2 k).1, .int .i64 (ptAt l2 k).2, .int .i64 (ptAt l2 (nxt l2 k)).1, .int .i64 (ptAt l2 (nxt l2 k)).2]] w fun e w' => e = .returned (.bool true) ∧ Below w.heap.size w w') := fun w => by
              have := sMeet_raw _ _ _ _ si sk w; rwa [hme] at this
            have e1 : Hid (apL l1 l2 = false) := by
              change _ = _
              rw [Bool.eq_false_iff]; intro h
              rw [(apL_iff l1 l2).1 h i (by rw [L1.out]; exact hlt) k (by rw [L2.out]; exact hlt2)] at hme; cases hme
            clear hrow hme hall
            go_wp2_with fail
            refine wp_region_quiet_below (by kernel_rfl) (by kernel_rfl) ?_
            repeat (first | go_big_quiet_step (first | (go_at_call 52; with_reducible exact Calls.regrown_of (X1.out _))))
            refine wpQuiet_nil ?_
            intro _ hw'
            obtain ⟨⟨dq, osq⟩, hw''⟩ := hw'
            subst hw''
            have J := below_regrown wr dq osq
            generalize grow (redrawn wr dq) osq = w5 at J ⊢
            go_wp2_with fail
            go_ret
            exact ⟨ret_bool e1.out.symm, bw_trans (bw_trans K2 hny) J⟩
end Go.Proofs.YtlikfcfblkckaaaDoor
namespace Go.Proofs.YtlikfcfblkckaaaDoor
open Go.RowKit Go.Sort

theorem sApart_pts (a1 a2 : Option Addr) (len1 cap1 len2 cap2 : Nat) (l1 l2 : List P2) (ok1 : okV l1 = true) (ok2 : okV l2 = true) (w : World) (hP1 : Pts w.heap.size w a1 len1 l1) (hP2 : Pts w.heap.size w a2 len2 l2) :
    Calls Tryd.prog 26 #[.slice a1 len1 cap1, .slice a2 len2 cap2] w fun e w' => e = .returned (.bool (apL l1 l2)) ∧ Below w.heap.size w w' := by
  have h1 := okV_pos ok1
  have h2 := okV_pos ok2
  obtain ⟨e1, c1⟩ := hP1
  obtain ⟨e2, c2⟩ := hP2
  rcases c1 with h0 | ⟨b1, off1, rfl, hb1, hc1⟩
  · omega
  rcases c2 with h0 | ⟨b2, off2, rfl, hb2, hc2⟩
  · omega
  exact sApart_ok b1 off1 len1 cap1 b2 off2 len2 cap2 l1 l2 ok1 ok2 e1 e2 w hb1 hb2 hc1 hc2
theorem sInI_pts (a1 : Option Addr) (len1 cap1 : Nat) (l1 : List P2) (p : P2) (ok1 : okV l1 = true) (hp : ptB p.1 p.2 = true) (w : World) (hP1 : Pts w.heap.size w a1 len1 l1) :
    Calls Tryd.prog 25 #[.slice a1 len1 cap1, .agg #[.int .i64 p.1, .int .i64 p.2]] w fun e w' => e = .returned (.int .i64 (inI l1 p)) ∧ Below w.heap.size w w' := by
  have h1 := okV_pos ok1
  obtain ⟨e1, c1⟩ := hP1
  rcases c1 with h0 | ⟨b1, off1, rfl, hb1, hc1⟩
  · omega
  exact sInI_ok b1 off1 len1 cap1 l1 p ok1 hp e1 w hb1 hc1
/-- So many holes lie as they must. -/
def Upto (o : List P2) (hs : List (List P2)) (k : Nat) : Prop := ∀ i, i < k → okV (hs[i]?.getD []) = true ∧ arB o (hs[i]?.getD []) = true ∧ ∀ j, j < i → beB (hs[i]?.getD []) (hs[j]?.getD []) = true
theorem upto_yes {o : List P2} {hs : List (List P2)} (h0 : okV o = true) (hn : hs.length ≤ 2) (h : Upto o hs hs.length) : plV o hs = true := by
  refine (plV_iff o hs).2 ⟨h0, hn, ?_, ?_, ?_⟩
  · intro x hx
    obtain ⟨i, hi, rfl⟩ := List.getElem_of_mem hx
    have := (h i hi).1
    rwa [List.getElem?_eq_getElem hi, Option.getD_some] at this
  · intro x hx
    obtain ⟨i, hi, rfl⟩ := List.getElem_of_mem hx
    have := (h i hi).2.1
    rwa [List.getElem?_eq_getElem hi, Option.getD_some] at this
  · intro i k hik hk
    rw [beB_comm]; exact (h k hk).2.2 i hik
theorem upto_all' {o : List P2} {hs : List (List P2)} (h : plV o hs = true) : Upto o hs hs.length := by
  have L := (plV_iff o hs).1 h
  intro i hi
  have hm : hs[i]?.getD [] ∈ hs := by rw [List.getElem?_eq_getElem hi, Option.getD_some]; exact List.getElem_mem hi
  exact ⟨L.ok _ hm, L.ar _ hm, fun j hj => by rw [beB_comm]; exact L.be j i hj hi⟩
set_option maxRecDepth 100000 in
set_option maxHeartbeats 8000000 in
theorem sPlateOk_any (a ah : Option Addr) (la ca nh ch : Nat) (o : List P2) (hs : List (List P2)) (w : World) (h : Plt w a la ah nh o hs) :
    Calls Tryd.prog 8 #[.agg #[.slice a la ca, .slice ah nh ch]] w fun e W' => e = .returned (.bool (plV o hs)) ∧ Below w.heap.size w W' := by
  obtain ⟨W, hW, BW, T⟩ : ∃ W, W = w.alloc (.cells #[.slice a la ca, .slice ah nh ch] 26) ∧ Below w.heap.size w W ∧ W.heap[w.heap.size]? = some (.cells #[.slice a la ca, .slice ah nh ch] 26) := ⟨_, rfl, (by repeat (first | exact bw_refl _ | assumption | apply bw_drewN | apply bw_drew | apply bw_alloc | refine bw_set ?_ (by simp) _)), heap_new _ _⟩
  replace h := h.below BW
  have hla := h.1
  have hP := h.2.1
  have hcall := sOk_any a la ca o hla W hP
  obtain ⟨t0, t1⟩ := blk_2 T
  have zT := blk_lt T
  cases hok : okV o
  · rw [hok] at hcall
    have e1 : Hid (plV o hs = false) := by
      change _ = _; rw [Bool.eq_false_iff]; intro hc
      rw [((plV_iff o hs).1 hc).out] at hok; cases hok
    go_enter Tryd.func8, Tryd.ntmps8
    go_upto_region 1 with fail
    rw [← hW]
    clear hW
    go_wp2_with (go_at_call 24; refine hcall.mono ?_; rintro e v ⟨rfl, J⟩)
    go_ret
    exact ⟨ret_bool e1.out.symm, bw_trans BW J⟩
  rw [hok] at hcall
  by_cases hb : 2 < nh
  · have hb' : (2 : Int) < (nh : Int) := by omega
    have e1 : Hid (plV o hs = false) := by
      change _ = _; rw [Bool.eq_false_iff]; intro hc
      have := plV_len hc; have := h.2.2.1; omega
    go_enter Tryd.func8, Tryd.ntmps8
    go_upto_region 1 with fail
    rw [← hW]
    clear hW
    go_wp2_with (go_at_call 24; refine hcall.mono ?_; rintro e v ⟨rfl, J⟩; obtain ⟨t0', t1'⟩ := blk_2 (keep J T))
    go_ret
    exact ⟨ret_bool e1.out.symm, bw_trans BW J⟩
  have hb' : ¬ (2 : Int) < (nh : Int) := by omega
  obtain ⟨_, _, hlen, A, L, C, hS, hH⟩ := h
  have HL : Hid (hs.length = nh) := hlen
  have hfin : Hid (Upto o hs nh → plV o hs = true) := fun hu => upto_yes hok (by omega) (by rw [hlen]; exact hu)
  have hno : Hid (∀ i, i < nh → (okV (hs[i]?.getD []) = true → arB o (hs[i]?.getD []) = true → ∃ j, j < i ∧ beB (hs[i]?.getD []) (hs[j]?.getD []) = false) → plV o hs = false) := fun i hi hc => by
    rw [Bool.eq_false_iff]; intro hv
    have hu := upto_all' hv i (by omega)
    obtain ⟨j, hj, e⟩ := hc hu.1 hu.2.1
    rw [hu.2.2 j hj] at e; cases e
  have hokH : Hid (okV o = true) := hok
  have hPt : Hid (∀ l : List P2, okV l = true → ptB (ptAt l 0).1 (ptAt l 0).2 = true ∧ 3 ≤ l.length) := fun l hl => ⟨by have := okV_pos hl; exact (sgP_pt (((okV_iff l).1 hl).seg 0 (by omega))).1, (okV_pos hl).1⟩
  clear hlen hok
  go_enter Tryd.func8, Tryd.ntmps8
  go_upto_region 1 with fail
  rw [← hW]
  clear hW
  go_wp2_with (go_at_call 24; refine hcall.mono ?_; rintro e v ⟨rfl, J⟩; obtain ⟨t0', t1'⟩ := blk_2 (keep J T))
  replace T := keep J T
  replace hP := (hP.below J).grow J.size
  replace hS := (hS.below J).grow J.size
  replace hH : ∀ j, j < nh → L j ≤ 1048576 ∧ Pts v.heap.size v (A j) (L j) (hs[j]?.getD []) := fun j hj => ⟨(hH j hj).1, ((hH j hj).2.below J).grow J.size⟩
  have K := bw_trans BW J
  clear hcall t0 t1 t0' t1' zT J
  go_loopw [3] (fun i wr => ∃ k : Nat, k ≤ nh ∧ i = .int .i64 k ∧ Upto o hs k ∧ Below v.heap.size v wr) (fun i _ => nh - (intOf i).toNat)
  case atStart => exact ⟨0, Nat.zero_le _, rfl, fun i hi => by omega, bw_refl _⟩
  case round =>
    obtain ⟨i, hi, rfl, hu, hnx⟩ := hrel
    obtain ⟨t0, t1⟩ := blk_2 (keep hnx T)
    have zT := blk_lt (keep hnx T)
    by_cases hlt : i < nh
    case neg =>
      obtain rfl : i = nh := by omega
      have e1 : Hid (plV o hs = true) := hfin.out hu
      clear hu
      go_wp2_with fail
      go_ret
      exact ⟨ret_bool e1.out.symm, bw_trans K hnx⟩
    case pos =>
      rcases hS.below hnx with h0 | ⟨b, off, rfl, hbl, hcs⟩
      · omega
      have c0 := hcs i hlt
      have i0 : (0 : Int) ≤ (i : Int) := Int.natCast_nonneg _
      have i1 : (i : Int) < (nh : Int) := by omega
      obtain ⟨hLi, hPi⟩ := hH i hlt
      have hPw := (hP.below hnx).grow hnx.size
      have hPiw := (hPi.below hnx).grow hnx.size
      have HO : Hid (∀ d os, Calls Tryd.prog 24 #[.slice (A i) (L i) (C i)] (grow (redrawn wr d) os) fun e W' => e = .returned (.bool (okV (hs[i]?.getD []))) ∧ Below (grow (redrawn wr d) os).heap.size (grow (redrawn wr d) os) W') := fun d os =>
        sOk_any (A i) (L i) (C i) _ hLi _ ((hPiw.below (below_regrown wr d os)).grow (below_regrown wr d os).size)
      obtain ⟨hh, hhe⟩ : ∃ hh, hs[i]?.getD [] = hh := ⟨_, rfl⟩
      have HE : Hid (hs[i]?.getD [] = hh) := hhe
      rw [hhe] at HO hPi hPiw
      have hnoi := hno.out i hlt
      rw [hhe] at hnoi
      clear hhe
      obtain ⟨u0, u1⟩ := reg_2 (keep hnx T)
      have c0r := cell_regrown c0
      cases hokh : okV hh
      · have e1 : Hid (plV o hs = false) := hnoi (fun e => by rw [hokh] at e; cases e)
        rw [hokh] at HO
        clear hu hnoi
        go_wp2_with fail
        refine wp_region_quiet_below (by kernel_rfl) (by kernel_rfl) ?_
        repeat (first | go_big_quiet_step (first | (go_at_call 24; with_reducible exact Calls.regrown_of (HO.out _ _))))
        refine wpQuiet_nil ?_
        intro _ hw'
        obtain ⟨⟨dq, osq⟩, hw''⟩ := hw'
        subst hw''
        have J := below_regrown wr dq osq
        generalize grow (redrawn wr dq) osq = v2 at J ⊢
        go_wp2_with fail
        go_ret
        exact ⟨ret_bool e1.out.symm, bw_trans (bw_trans K hnx) J⟩
      rw [hokh] at HO
      have hpt := hPt.out hh hokh
      have HI : Hid (∀ d os, Calls Tryd.prog 25 #[.slice a la ca, .agg #[.int .i64 (ptAt hh 0).1, .int .i64 (ptAt hh 0).2]] (grow (redrawn wr d) os) fun e W' => e = .returned (.int .i64 (inI o (ptAt hh 0))) ∧ Below (grow (redrawn wr d) os).heap.size (grow (redrawn wr d) os) W') := fun d os =>
        sInI_pts a la ca o (ptAt hh 0) hokH.out hpt.1 _ ((hPw.below (below_regrown wr d os)).grow (below_regrown wr d os).size)
      have HA : Hid (∀ d os, Calls Tryd.prog 26 #[.slice a la ca, .slice (A i) (L i) (C i)] (grow (redrawn wr d) os) fun e W' => e = .returned (.bool (apL o hh)) ∧ Below (grow (redrawn wr d) os).heap.size (grow (redrawn wr d) os) W') := fun d os =>
        sApart_pts a (A i) la ca (L i) (C i) o hh hokH.out hokh _ ((hPw.below (below_regrown wr d os)).grow (below_regrown wr d os).size) ((hPiw.below (below_regrown wr d os)).grow (below_regrown wr d os).size)
      have hLi3 : 3 ≤ L i := by have := hpt.2; have := hPi.1; omega
      obtain ⟨bi, offi, hai, hbi, f0, f1⟩ := pts_first hPiw (by omega)
      have f0r := cell_regrown f0
      have f1r := cell_regrown f1
      rw [hai] at HO HA c0r
      have p1 : (0 : Int) < (L i : Int) := by omega
      have har : Hid (arB o hh = ((inI o (ptAt hh 0) == 1) && apL o hh)) := by
        change _ = _; unfold arB; rw [Bool.and_comm]; congr 1
      have hq0 : Hid (ptB (ptAt hh 0).1 (ptAt hh 0).2 = true) := hpt.1
      obtain ⟨qq, hqq⟩ : ∃ qq, ptAt hh 0 = qq := ⟨_, rfl⟩
      have HQ : Hid (ptAt hh 0 = qq) := hqq
      rw [hqq] at HI f0r f1r har hq0
      clear hqq f0 f1 hpt
      generalize inI o qq = u at HI har
      cases hu1 : u == 1
      · have hne : (u != 1) = true := by simp only [bne, hu1, Bool.not_false]
        have e1 : Hid (plV o hs = false) := hnoi (fun _ e => by rw [har.out, hu1] at e; cases e)
        clear hu hnoi har
        go_wp2_with fail
        refine wp_region_quiet_below (by kernel_rfl) (by kernel_rfl) ?_
        repeat (first | go_big_quiet_step (first | (go_at_call 24; with_reducible exact Calls.regrown_of (HO.out _ _)) | (go_at_call 25; with_reducible exact Calls.regrown_of (HI.out _ _))))
        refine wpQuiet_nil ?_
        intro _ hw'
        obtain ⟨⟨dq, osq⟩, hw''⟩ := hw'
        subst hw''
        have J := below_regrown wr dq osq
        generalize grow (redrawn wr dq) osq = v2 at J ⊢
        go_wp2_with fail
        go_ret
        exact ⟨ret_bool e1.out.symm, bw_trans (bw_trans K hnx) J⟩
      obtain rfl : u = 1 := by simpa using hu1
      cases hap : apL o hh
      · have e1 : Hid (plV o hs = false) := hnoi (fun _ e => by rw [har.out, hap] at e; cases e)
        rw [hap] at HA
        clear hu hnoi har hap
        go_wp2_with fail
        refine wp_region_quiet_below (by kernel_rfl) (by kernel_rfl) ?_
        repeat (first | go_big_quiet_step (first | (go_at_call 24; with_reducible exact Calls.regrown_of (HO.out _ _)) | (go_at_call 25; with_reducible exact Calls.regrown_of (HI.out _ _)) | (go_at_call 26; with_reducible exact Calls.regrown_of (HA.out _ _))))
        refine wpQuiet_nil ?_
        intro _ hw'
        obtain ⟨⟨dq, osq⟩, hw''⟩ := hw'
        subst hw''
        have J := below_regrown wr dq osq
        generalize grow (redrawn wr dq) osq = v2 at J ⊢
        go_wp2_with fail
        go_ret
        exact ⟨ret_bool e1.out.symm, bw_trans (bw_trans K hnx) J⟩
      rw [hap] at HA
      have haro : Hid (arB o hh = true) := by change _ = _; rw [har.out, hap]; rfl
      have hokhH : Hid (okV hh = true) := hokh
      have huH : Hid (Upto o hs i) := hu
      have hnoiH : Hid (∀ j, j < i → beB hh (hs[j]?.getD []) = false → plV o hs = false) := fun j hj e => hnoi (fun _ _ => ⟨j, hj, e⟩)
      clear hu hnoi har hap hokh
      go_wp2_with fail
      refine wp_region_quiet_below (by kernel_rfl) (by kernel_rfl) ?_
      repeat (first | go_big_quiet_step (first | (go_at_call 24; with_reducible exact Calls.regrown_of (HO.out _ _)) | (go_at_call 25; with_reducible exact Calls.regrown_of (HI.out _ _)) | (go_at_call 26; with_reducible exact Calls.regrown_of (HA.out _ _))))
      refine wpQuiet_nil ?_
      intro _ hw'
      obtain ⟨⟨dq, osq⟩, hw''⟩ := hw'
      subst hw''
      have J := below_regrown wr dq osq
      generalize grow (redrawn wr dq) osq = v2 at J ⊢
      have hn2 := bw_trans hnx J
      clear J HO HI HA c0r f0r f1r u0 u1 t0 t1 zT hcs c0
      go_wp2_with fail
      go_loopw [5] (fun k wr => ∃ k' : Nat, k' ≤ i ∧ k = .int .i64 k' ∧ (∀ j, j < k' → beB hh (hs[j]?.getD []) = true) ∧ Below v.heap.size v wr) (fun k _ => i - (intOf k).toNat)
      case atStart => exact ⟨0, Nat.zero_le _, rfl, fun j hj => by omega, hn2⟩
      case round =>
        obtain ⟨k, hk, rfl, hrow, hny⟩ := hrel
        by_cases hlt2 : k < i
        case neg =>
          obtain rfl : k = i := by omega
          have hup : Hid (Upto o hs (k + 1)) := fun j hj => by
            rcases Nat.lt_or_ge j k with h | h
            · exact huH.out j h
            · obtain rfl : j = k := by omega
              rw [HE.out]; exact ⟨hokhH.out, haro.out, hrow⟩
          clear hrow
          go_wp2_with fail
          go_roundw
          case rel => exact ⟨k + 1, by omega, by simp, hup.out, hny⟩
          case measure => simp [intOf]; omega
        case pos =>
          obtain ⟨t0, t1⟩ := blk_2 (keep hny T)
          have zT := blk_lt (keep hny T)
          rcases hS.below hny with h0 | ⟨b', off', hbo, hbl', hcs⟩
          · omega
          cases hbo
          have ck := hcs k (by omega)
          clear hcs
          have j0 : (0 : Int) ≤ (k : Int) := Int.natCast_nonneg _
          have j1 : (k : Int) < (nh : Int) := by omega
          obtain ⟨hLk, hPk⟩ := hH k (by omega)
          have hokk := (huH.out k hlt2).1
          have hnok := hnoiH.out k hlt2
          have hrow' : Hid (beB hh (hs[k]?.getD []) = true → ∀ j, j < k + 1 → beB hh (hs[j]?.getD []) = true) := fun e j hj => by
            rcases Nat.lt_or_ge j k with h | h
            · exact hrow j h
            · obtain rfl : j = k := by omega
              exact e
          clear hrow
          generalize hs[k]?.getD [] = hk2 at hPk hokk hnok hrow'
          have hPkw := (hPk.below hny).grow hny.size
          have hPiw' := (hPi.below hny).grow hny.size
          have hpt2 := hPt.out hk2 hokk
          have hLk3 : 3 ≤ L k := by have := hpt2.2; have := hPk.1; omega
          have hI1 : Hid (∀ d os, Calls Tryd.prog 25 #[.slice (A k) (L k) (C k), .agg #[.int .i64 qq.1, .int .i64 qq.2]] (grow (redrawn wr d) os) fun e W' => e = .returned (.int .i64 (inI hk2 qq)) ∧ Below (grow (redrawn wr d) os).heap.size (grow (redrawn wr d) os) W') := fun d os =>
            sInI_pts (A k) (L k) (C k) hk2 qq hokk hq0.out _ ((hPkw.below (below_regrown wr d os)).grow (below_regrown wr d os).size)
          have hI2 : Hid (∀ d os, Calls Tryd.prog 25 #[.slice (A i) (L i) (C i), .agg #[.int .i64 (ptAt hk2 0).1, .int .i64 (ptAt hk2 0).2]] (grow (redrawn wr d) os) fun e W' => e = .returned (.int .i64 (inI hh (ptAt hk2 0))) ∧ Below (grow (redrawn wr d) os).heap.size (grow (redrawn wr d) os) W') := fun d os =>
            sInI_pts (A i) (L i) (C i) hh (ptAt hk2 0) hokhH.out hpt2.1 _ ((hPiw'.below (below_regrown wr d os)).grow (below_regrown wr d os).size)
          have HA1 : Hid (∀ d os, Calls Tryd.prog 26 #[.slice (A i) (L i) (C i), .slice (A k) (L k) (C k)] (grow (redrawn wr d) os) fun e W' => e = .returned (.bool (apL hh hk2)) ∧ Below (grow (redrawn wr d) os).heap.size (grow (redrawn wr d) os) W') := fun d os =>
            sApart_pts (A i) (A k) (L i) (C i) (L k) (C k) hh hk2 hokhH.out hokk _ ((hPiw'.below (below_regrown wr d os)).grow (below_regrown wr d os).size) ((hPkw.below (below_regrown wr d os)).grow (below_regrown wr d os).size)
          obtain ⟨bi2, offi2, hai2, hbi2, f0, f1⟩ := pts_first hPiw' (by omega)
          obtain ⟨bk, offk, hak, hbk, g0, g1⟩ := pts_first hPkw (by omega)
          have f0r := cell_regrown f0
          have f1r := cell_regrown f1
          have g0r := cell_regrown g0
          have g1r := cell_regrown g1
          have ckr := cell_regrown ck
          obtain ⟨u0, u1⟩ := reg_2 (keep hny T)
          rw [hai] at hai2
          cases hai2
          rw [hai] at hI2 HA1
          rw [hak] at hI1 HA1 ckr
          rw [HQ.out] at f0r f1r
          have p2 : (0 : Int) < (L k : Int) := by omega
          have hbe : Hid (beB hh hk2 = (apL hh hk2 && (inI hk2 qq == -1) && (inI hh (ptAt hk2 0) == -1))) := by
            change _ = _; rw [Bool.eq_iff_iff, beB_iff, HQ.out]; simp only [Bool.and_eq_true, beq_iff_eq]
            constructor
            · rintro ⟨h1, h2, h3⟩; exact ⟨⟨h1, h3⟩, h2⟩
            · rintro ⟨⟨h1, h2⟩, h3⟩; exact ⟨h1, h3, h2⟩
          generalize inI hk2 qq = v1 at hI1 hbe
          generalize inI hh (ptAt hk2 0) = v3 at hI2 hbe
          generalize ptAt hk2 0 = q3 at *
          clear f0 f1 g0 g1 ck t0 t1
          cases hap : apL hh hk2
          · rw [hap] at HA1
            have e1 : Hid (plV o hs = false) := hnok (by rw [hbe.out, hap]; rfl)
            clear hnok hbe hrow' hap
            go_wp2_with fail
            refine wp_region_quiet_below (by kernel_rfl) (by kernel_rfl) ?_
            repeat (first | go_big_quiet_step (first | (go_at_call 26; with_reducible exact Calls.regrown_of (HA1.out _ _))))
            refine wpQuiet_nil ?_
            intro _ hw'
            obtain ⟨⟨dq, osq⟩, hw''⟩ := hw'
            subst hw''
            have J := below_regrown wr dq osq
            generalize grow (redrawn wr dq) osq = v4 at J ⊢
            go_wp2_with fail
            go_ret
            exact ⟨ret_bool e1.out.symm, bw_trans (bw_trans K hny) J⟩
          rw [hap] at HA1
          cases hv1 : v1 == -1
          · have hne : (v1 != -1) = true := by simp only [bne, hv1, Bool.not_false]
            have e1 : Hid (plV o hs = false) := hnok (by rw [hbe.out, hap, hv1]; rfl)
            clear hnok hbe hrow' hap
            go_wp2_with fail
            refine wp_region_quiet_below (by kernel_rfl) (by kernel_rfl) ?_
            repeat (first | go_big_quiet_step (first | (go_at_call 26; with_reducible exact Calls.regrown_of (HA1.out _ _)) | (go_at_call 25; with_reducible exact Calls.regrown_of (hI1.out _ _))))
            refine wpQuiet_nil ?_
            intro _ hw'
            obtain ⟨⟨dq, osq⟩, hw''⟩ := hw'
            subst hw''
            have J := below_regrown wr dq osq
            generalize grow (redrawn wr dq) osq = v4 at J ⊢
            go_wp2_with fail
            go_ret
            exact ⟨ret_bool e1.out.symm, bw_trans (bw_trans K hny) J⟩
          obtain rfl : v1 = -1 := by simpa using hv1
          cases hv3 : v3 == -1
          · have hne : (v3 != -1) = true := by simp only [bne, hv3, Bool.not_false]
            have e1 : Hid (plV o hs = false) := hnok (by rw [hbe.out, hap, hv3]; rfl)
            clear hnok hbe hrow' hap
            go_wp2_with fail
            refine wp_region_quiet_below (by kernel_rfl) (by kernel_rfl) ?_
            repeat (first | go_big_quiet_step (first | (go_at_call 26; with_reducible exact Calls.regrown_of (HA1.out _ _)) | (go_at_call 25; with_reducible exact Calls.regrown_of (hI1.out _ _)) | (go_at_call 25; with_reducible exact Calls.regrown_of (hI2.out _ _))))
            refine wpQuiet_nil ?_
            intro _ hw'
            obtain ⟨⟨dq, osq⟩, hw''⟩ := hw'
            subst hw''
            have J := below_regrown wr dq osq
            generalize grow (redrawn wr dq) osq = v4 at J ⊢
            go_wp2_with fail
            go_ret
            exact ⟨ret_bool e1.out.symm, bw_trans (bw_trans K hny) J⟩
          obtain rfl : v3 = -1 := by simpa using hv3
          have hrow2 : Hid (∀ j, j < k + 1 → beB hh (hs[j]?.getD []) = true) := hrow'.out (by rw [hbe.out, hap]; rfl)
          clear hnok hbe hrow' hap
          go_wp2_with fail
          refine wp_region_quiet_below (by kernel_rfl) (by kernel_rfl) ?_
          repeat (first | go_big_quiet_step (first | (go_at_call 26; with_reducible exact Calls.regrown_of (HA1.out _ _)) | (go_at_call 25; with_reducible exact Calls.regrown_of (hI1.out _ _)) | (go_at_call 25; with_reducible exact Calls.regrown_of (hI2.out _ _))))
          refine wpQuiet_nil ?_
          intro _ hw'
          obtain ⟨⟨dq, osq⟩, hw''⟩ := hw'
          subst hw''
          have J := below_regrown wr dq osq
          generalize grow (redrawn wr dq) osq = v4 at J ⊢
          go_wp2_with fail
          go_roundw
          case rel => exact ⟨k + 1, by omega, by simp, hrow2.out, bw_trans hny J⟩
          case measure => simp [intOf]; omega
end Go.Proofs.YtlikfcfblkckaaaDoor
namespace Go.Proofs.YtlikfcfblkckaaaDoor
open Go.RowKit Go.Sort

theorem sEdges_pts (a1 : Option Addr) (len1 cap1 : Nat) (l1 : List P2) (ok1 : okV l1 = true) (w : World) (hP1 : Pts w.heap.size w a1 len1 l1) :
    Calls Tryd.prog 49 #[.slice a1 len1 cap1] w fun e w' => ∃ g c, e = .returned (.slice (some ⟨g, 0, none⟩) len1 c) ∧ w'.ownsRow w.heap.size 98 4 (.slice (some ⟨g, 0, none⟩) len1 c) len1 (cellsS (segsL l1)) ∧ Below w.heap.size w w' := by
  have h1 := okV_pos ok1
  obtain ⟨e1, c1⟩ := hP1
  rcases c1 with h0 | ⟨b1, off1, rfl, hb1, hc1⟩
  · omega
  refine (sEdges_ok b1 off1 len1 cap1 l1 w e1 (by omega) (by omega) hb1 hc1).mono ?_
  rintro e w' ⟨v, rfl, ho, J⟩
  rw [← e1, ← segsL_cells, e1] at ho
  have ho' := ho
  rcases ho.2 with ⟨_, h0⟩ | ⟨g, c, cur, rfl, _⟩
  · omega
  · exact ⟨g, c, rfl, ho', J⟩
theorem cellsS_one (ss : List (P2 × P2)) : ∀ u ∈ cellsS ss, u.oneCell' = true := by
  intro u hu
  simp only [cellsS, List.mem_flatMap, seg4] at hu
  obtain ⟨s, _, hs⟩ := hu
  simp at hs
  rcases hs with rfl | rfl | rfl | rfl <;> rfl
set_option maxRecDepth 100000 in
set_option maxHeartbeats 4000000 in
theorem l11Edges_ok (a ah : Option Addr) (la ca nh ch : Nat) (o : List P2) (hs : List (List P2)) (hv : plV o hs = true) (w : World) (h : Plt w a la ah nh o hs) :
    Calls Tryd.prog 23 #[.agg #[.slice a la ca, .slice ah nh ch]] w fun e W' => ∃ v, e = .returned v ∧ W'.ownsRow w.heap.size 98 4 v (plE o hs).length (cellsS (plE o hs)) ∧ Below w.heap.size w W' := by
  obtain ⟨i0, hi0, hz0, hz1, hz2⟩ := info_parts Tryd.infoSeg
  obtain ⟨W, hW, BW, TP⟩ : ∃ W, W = w.alloc (.cells #[.slice a la ca, .slice ah nh ch] 26) ∧ Below w.heap.size w W ∧ W.heap[w.heap.size]? = some (.cells #[.slice a la ca, .slice ah nh ch] 26 (0, 0)) := ⟨_, rfl, (by repeat (first | exact bw_refl _ | assumption | apply bw_drewN | apply bw_drew | apply bw_alloc | refine bw_set ?_ (by simp) _)), heap_new _ _⟩
  have hPV := (plV_iff o hs).1 hv
  obtain ⟨hla, hP, hlen, A, L, C, hS, hH⟩ := h.below BW
  have HO := sEdges_pts a la ca o hPV.out W hP
  have HOK : Hid (∀ j, j < nh → okV (hs[j]?.getD []) = true) := fun j hj => hPV.ok _ (by rw [List.getElem?_eq_getElem (by omega), Option.getD_some]; exact List.getElem_mem _)
  have HE : Hid (plE o hs = segsL o ++ (hs.take nh).flatMap segsL) := by change _ = _; unfold plE; rw [hv, if_pos rfl, ← hlen, List.take_length]
  have HT : Hid (∀ k, k < nh → (hs.take (k + 1)).flatMap segsL = (hs.take k).flatMap segsL ++ segsL (hs[k]?.getD [])) := fun k hk => by
    rw [List.take_add_one, List.flatMap_append, List.getElem?_eq_getElem (by omega)]; simp
  have HB : Hid (∀ k, k ≤ nh → (segsL o ++ (hs.take k).flatMap segsL).length ≤ 24) := fun k hk => by
    have h0 := (okV_pos hPV.out).2
    have h2 := flat_len (hs.take k) (fun x hx => (okV_pos (hPV.ok x (List.mem_of_mem_take hx))).2)
    have h3 := hPV.len
    rw [List.length_append, segsL_len]; rw [List.length_take] at h2; omega
  have hl0 : Hid (la = (segsL o).length) := by change _ = _; rw [segsL_len]; exact hP.1.symm
  have hnh : nh ≤ 2 := by have := hPV.len; omega
  clear hlen hPV hv h
  obtain ⟨t0, t1⟩ := blk_2 TP
  have zP := blk_lt TP
  go_enter Tryd.func23, Tryd.ntmps23
  go_upto_region 1 with fail
  rw [← hW]
  clear hW
  go_wp2_with fail
  refine HO.mono ?_
  rintro e v ⟨g0, c0, rfl, ho0, J⟩
  have ho1 : v.ownsRow W.heap.size 98 4 (.slice (some ⟨g0, 0, none⟩) la c0) (segsL o ++ (hs.take 0).flatMap segsL).length (cellsS (segsL o ++ (hs.take 0).flatMap segsL)) := by
    have e0 := hl0.out; simp only [List.take_zero, List.flatMap_nil, List.append_nil]; rw [← e0]; exact ho0
  clear HO t0 t1 ho0
  go_wp2_with fail
  go_loopw [3, 4] (fun out i wr => ∃ k : Nat, k ≤ nh ∧ i = .int .i64 k ∧ wr.ownsRow W.heap.size 98 4 out (segsL o ++ (hs.take k).flatMap segsL).length (cellsS (segsL o ++ (hs.take k).flatMap segsL)) ∧ Below W.heap.size W wr) (fun _ i _ => nh - (intOf i).toNat)
  case atStart => exact ⟨0, Nat.zero_le _, rfl, ho1, J⟩
  case round =>
    obtain ⟨k, hk, rfl, hown, hnx⟩ := hrel
    obtain ⟨t0, t1⟩ := blk_2 (keep hnx TP)
    have zz := hnx.size
    by_cases hlt : k < nh
    case neg =>
      obtain rfl : nh = k := by omega
      rw [← HE.out] at hown
      go_wp2_with fail
      go_ret
      exact ⟨_, rfl, own_base hown BW.size, bw_trans BW hnx⟩
    case pos =>
      rcases hS.below hnx with h0 | ⟨b, off, rfl, hbl, hcs⟩
      · omega
      have c1 := hcs k hlt
      clear hcs
      have j0 : (0 : Int) ≤ (k : Int) := Int.natCast_nonneg _
      have j1 : (k : Int) < (nh : Int) := by omega
      obtain ⟨hLk, hPk⟩ := hH k hlt
      have hokk := HOK.out k hlt
      have hcall := sEdges_pts (A k) (L k) (C k) _ hokk wr ((hPk.below hnx).grow hnx.size)
      have hlk : (segsL (hs[k]?.getD [])).length = L k := by rw [segsL_len]; exact hPk.1
      have hbk := HB.out k hk
      have hbk1 := HB.out (k + 1) hlt
      rw [HT.out k hlt, ← List.append_assoc, List.length_append, hlk] at hbk1
      have hl1 : (segsL o ++ (hs.take k).flatMap segsL).length + L k = (segsL o ++ (hs.take (k + 1)).flatMap segsL).length := by rw [HT.out k hlt, ← List.append_assoc, List.length_append (bs := segsL _), hlk]
      have hc1 : cellsS (segsL o ++ (hs.take (k + 1)).flatMap segsL) = cellsS (segsL o ++ (hs.take k).flatMap segsL) ++ cellsS (segsL (hs[k]?.getD [])) := by rw [HT.out k hlt, ← List.append_assoc, cellsS_append _ (segsL _)]
      have HL1 : Hid ((segsL o ++ (hs.take k).flatMap segsL).length + L k = (segsL o ++ (hs.take (k + 1)).flatMap segsL).length) := hl1
      have HC1 : Hid (cellsS (segsL o ++ (hs.take (k + 1)).flatMap segsL) = cellsS (segsL o ++ (hs.take k).flatMap segsL) ++ cellsS (segsL (hs[k]?.getD []))) := hc1
      have HLK : Hid ((cellsS (segsL (hs[k]?.getD []))).length = L k * 4) := by change _ = _; rw [cellsS_len, hlk]
      have hm1 : (segsL o ++ (hs.take k).flatMap segsL).length + L k ≤ 24 := by rw [hl1]; exact HB.out (k + 1) hlt
      clear hl1 hc1 hbk1 hlk
      go_wp2_with (first
        | (go_at_call 49; refine hcall.mono ?_; rintro e w7 ⟨g7, c7, rfl, ho7, J7⟩; have hown7 := hown.kept (w' := w7) (row := none) ⟨J7.os, J7.tape, J7.output, J7.size, fun j hj _ => J7.block j hj⟩ (Classical.em _); have hn7 := bw_trans hnx J7; have zz7 := hn7.size)
        | (at_builtin; refine wpList_append_own_wide _ rfl _ _ _ rfl W.heap.size 98 i0 _ 4 32 Tryd.underlying58 hi0 hz0 hz1 hz2 rfl (by omega) _ _ _ rfl hown7 ⟨g7, 0, none⟩ (L k) c7 (cellsS (segsL (hs[k]?.getD []))) rfl HLK.out (ho7.cells (g := g7) rfl) (cellsS_one _) (by simp [maxLen] at hm1 ⊢; omega) (by omega) (by omega) ?_; intro v8 w8 hown8 hgr8 hnil8))
      go_roundw
      case rel => exact ⟨k + 1, by omega, by simp, by rw [← HL1.out, HC1.out]; exact hown8, hn7.grown hgr8 zz7 (fun j e => (hown7.lt j e).1)⟩
      case measure => simp [intOf]; omega
end Go.Proofs.YtlikfcfblkckaaaDoor
namespace Go.Proofs.YtlikfcfblkckaaaDoor
open Go.RowKit Go.Sort

theorem cT6 {W : World} {p m n k l : Nat} {x y z u : Value} {a0 a1 a2 a3 a4 a5 : Addr} {v0 v1 v2 v3 v4 v5 : Value} (h : W.cell? a0 = some v0 ∧ W.cell? a1 = some v1 ∧ W.cell? a2 = some v2 ∧ W.cell? a3 = some v3 ∧ W.cell? a4 = some v4 ∧ W.cell? a5 = some v5) (n0 : a0.block ≠ p) (n1 : a1.block ≠ p) (n2 : a2.block ≠ p) (n3 : a3.block ≠ p) (n4 : a4.block ≠ p) (n5 : a5.block ≠ p) : ((((W.setCell ⟨p, m, none⟩ x).setCell ⟨p, n, none⟩ y).setCell ⟨p, k, none⟩ z).setCell ⟨p, l, none⟩ u).cell? a0 = some v0 ∧ ((((W.setCell ⟨p, m, none⟩ x).setCell ⟨p, n, none⟩ y).setCell ⟨p, k, none⟩ z).setCell ⟨p, l, none⟩ u).cell? a1 = some v1 ∧ ((((W.setCell ⟨p, m, none⟩ x).setCell ⟨p, n, none⟩ y).setCell ⟨p, k, none⟩ z).setCell ⟨p, l, none⟩ u).cell? a2 = some v2 ∧ ((((W.setCell ⟨p, m, none⟩ x).setCell ⟨p, n, none⟩ y).setCell ⟨p, k, none⟩ z).setCell ⟨p, l, none⟩ u).cell? a3 = some v3 ∧ ((((W.setCell ⟨p, m, none⟩ x).setCell ⟨p, n, none⟩ y).setCell ⟨p, k, none⟩ z).setCell ⟨p, l, none⟩ u).cell? a4 = some v4 ∧ ((((W.setCell ⟨p, m, none⟩ x).setCell ⟨p, n, none⟩ y).setCell ⟨p, k, none⟩ z).setCell ⟨p, l, none⟩ u).cell? a5 = some v5 := cS6 (cS6 h n0 n1 n2 n3 n4 n5) n0 n1 n2 n3 n4 n5
theorem cellL {W : World} {o o' : Obj} {a : Addr} {v : Value} (h : (W.alloc o).cell? a = some v) (hb : a.block < W.heap.size) : (W.alloc o').cell? a = some v := by
  rw [← h]
  exact World.cell?_of_block (w := W.alloc o) ((heap_old W o' hb).trans (heap_old W o hb).symm)
theorem cL6 {W : World} {o o' : Obj} {a0 a1 a2 a3 a4 a5 : Addr} {v0 v1 v2 v3 v4 v5 : Value} (h : (W.alloc o).cell? a0 = some v0 ∧ (W.alloc o).cell? a1 = some v1 ∧ (W.alloc o).cell? a2 = some v2 ∧ (W.alloc o).cell? a3 = some v3 ∧ (W.alloc o).cell? a4 = some v4 ∧ (W.alloc o).cell? a5 = some v5) (n0 : a0.block < W.heap.size) (n1 : a1.block < W.heap.size) (n2 : a2.block < W.heap.size) (n3 : a3.block < W.heap.size) (n4 : a4.block < W.heap.size) (n5 : a5.block < W.heap.size) : (W.alloc o').cell? a0 = some v0 ∧ (W.alloc o').cell? a1 = some v1 ∧ (W.alloc o').cell? a2 = some v2 ∧ (W.alloc o').cell? a3 = some v3 ∧ (W.alloc o').cell? a4 = some v4 ∧ (W.alloc o').cell? a5 = some v5 :=
  ⟨cellL h.1 n0, cellL h.2.1 n1, cellL h.2.2.1 n2, cellL h.2.2.2.1 n3, cellL h.2.2.2.2.1 n4, cellL h.2.2.2.2.2 n5⟩
theorem cL8 {W : World} {o o' : Obj} {a0 a1 a2 a3 a4 a5 a6 a7 : Addr} {v0 v1 v2 v3 v4 v5 v6 v7 : Value} (h : (W.alloc o).cell? a0 = some v0 ∧ (W.alloc o).cell? a1 = some v1 ∧ (W.alloc o).cell? a2 = some v2 ∧ (W.alloc o).cell? a3 = some v3 ∧ (W.alloc o).cell? a4 = some v4 ∧ (W.alloc o).cell? a5 = some v5 ∧ (W.alloc o).cell? a6 = some v6 ∧ (W.alloc o).cell? a7 = some v7) (n0 : a0.block < W.heap.size) (n1 : a1.block < W.heap.size) (n2 : a2.block < W.heap.size) (n3 : a3.block < W.heap.size) (n4 : a4.block < W.heap.size) (n5 : a5.block < W.heap.size) (n6 : a6.block < W.heap.size) (n7 : a7.block < W.heap.size) : (W.alloc o').cell? a0 = some v0 ∧ (W.alloc o').cell? a1 = some v1 ∧ (W.alloc o').cell? a2 = some v2 ∧ (W.alloc o').cell? a3 = some v3 ∧ (W.alloc o').cell? a4 = some v4 ∧ (W.alloc o').cell? a5 = some v5 ∧ (W.alloc o').cell? a6 = some v6 ∧ (W.alloc o').cell? a7 = some v7 :=
  ⟨cellL h.1 n0, cellL h.2.1 n1, cellL h.2.2.1 n2, cellL h.2.2.2.1 n3, cellL h.2.2.2.2.1 n4, cellL h.2.2.2.2.2.1 n5, cellL h.2.2.2.2.2.2.1 n6, cellL h.2.2.2.2.2.2.2 n7⟩
end Go.Proofs.YtlikfcfblkckaaaDoor
namespace Go.Proofs.YtlikfcfblkckaaaDoor
open Go.RowKit Go.Sort

set_option maxRecDepth 100000 in
set_option maxHeartbeats 4000000 in
theorem sL11Far_ok (g len cap : Nat) (ss : List (P2 × P2)) (p : P2) (w : World) (hS : SRow w g ss) (zg : g < w.heap.size) (hl : ss.length = len) (h1 : 1 ≤ len) (h2 : len ≤ 1000) (hok : ∀ s ∈ ss, sgP s.1 s.2 = true) (hp : ptB p.1 p.2 = true) :
    Calls Tryd.prog 22 #[.slice (some ⟨g, 0, none⟩) len cap, .agg #[.int .i64 p.1, .int .i64 p.2]] w fun e W' => e = .returned (.agg #[.int .i64 (leastL (ss.map (farS p))).1, .int .i64 (leastL (ss.map (farS p))).2]) ∧ Below w.heap.size w W' := by
  obtain ⟨W, hW, BW, T, RB⟩ := boxes2 w (.cells #[.int .i64 p.1, .int .i64 p.2] 28) (.cells #[.int .i64 0, .int .i64 0] 32)
  obtain ⟨F, hF⟩ : ∃ F : Nat → Int × Int, F = fun k => farS p (sAt ss k) := ⟨_, rfl⟩
  obtain ⟨M, hM⟩ : ∃ M : Nat → Int × Int, M = fun k => leastL ((ss.take k).map (farS p)) := ⟨_, rfl⟩
  have hat : ∀ k, k < len → sgP (sAt ss k).1 (sAt ss k).2 = true := fun k hk => hok _ (sAt_mem (by omega))
  have HF : Hid (∀ k, k < len → OkF (F k) ∧ ∀ w, Calls Tryd.prog 47 #[.agg #[.int .i64 (sAt ss k).1.1, .int .i64 (sAt ss k).1.2, .int .i64 (sAt ss k).2.1, .int .i64 (sAt ss k).2.2], .agg #[.int .i64 p.1, .int .i64 p.2]] w fun e w' => e = .returned (.agg #[.int .i64 (F k).1, .int .i64 (F k).2]) ∧ Below w.heap.size w w') := fun k hk => by
    rw [hF]
    refine ⟨farS_ok (hat k hk) hp, fun w => ?_⟩
    have := sFar_ok (sAt ss k).1.1 (sAt ss k).1.2 (sAt ss k).2.1 (sAt ss k).2.2 p.1 p.2 w (hat k hk) hp
    dsimp only
    rw [farS_of (hat k hk) hp]
    exact this
  have hcut : ∀ k, k < len → (ss.take (k + 1)).map (farS p) = (ss.take k).map (farS p) ++ [farS p (sAt ss k)] := fun k hk => by
    rw [List.take_add_one, List.getElem?_eq_getElem (by omega), List.map_append]
    simp [sAt, List.getElem?_eq_getElem (show k < ss.length by omega)]
  have hfold : ∀ (l : List (Int × Int)) (x : Int × Int), l ≠ [] → leastL (l ++ [x]) = mn (leastL l) x := by
    intro l x hne
    cases l with
    | nil => exact absurd rfl hne
    | cons y l => show (l ++ [x]).foldl mn y = _; rw [List.foldl_append]; rfl
  have HM1 : Hid (M (0 + 1) = F 0) := by change _ = _; rw [hM, hF]; dsimp only; rw [hcut 0 (by omega)]; rfl
  have HMs : Hid (∀ k, 1 ≤ k → k < len → M (k + 1) = mn (M k) (F k)) := fun k hk1 hk => by
    rw [hM, hF]; dsimp only; rw [hcut k hk]
    refine hfold _ _ ?_
    intro e
    have := congrArg List.length e
    rw [List.length_map, List.length_take, List.length_nil] at this
    omega
  have HMok : Hid (∀ k, 1 ≤ k → k ≤ len → OkF (M k)) := fun k hk1 hk => by
    rw [hM]; dsimp only
    refine leastL_ok ?_ ?_
    · intro e
      have := congrArg List.length e
      rw [List.length_map, List.length_take, List.length_nil] at this
      omega
    · intro f hf
      obtain ⟨s, hs, rfl⟩ := List.mem_map.1 hf
      exact farS_ok (hok s (List.mem_of_mem_take hs)) hp
  have HMl : Hid (M len = leastL (ss.map (farS p))) := by change _ = _; rw [hM]; dsimp only; rw [← hl, List.take_length]
  have HS : Hid (∀ k, k < len → w.cell? ⟨g, k * 4, none⟩ = some (.int .i64 (sAt ss k).1.1) ∧ w.cell? ⟨g, k * 4 + 1, none⟩ = some (.int .i64 (sAt ss k).1.2) ∧ w.cell? ⟨g, k * 4 + 2, none⟩ = some (.int .i64 (sAt ss k).2.1) ∧ w.cell? ⟨g, k * 4 + 3, none⟩ = some (.int .i64 (sAt ss k).2.2)) := fun k hk => hS k (by omega)
  clear hF hM hat hcut hfold hok hl hS
  rw [← HMl.out]
  obtain ⟨s0, s1, s2, s3⟩ := HS.out 0 (by omega)
  simp only [Nat.zero_mul, Nat.zero_add] at s0 s1 s2 s3
  have d0 := (BW.cell (p := ⟨g, 0, none⟩) zg).trans s0
  have d1 := (BW.cell (p := ⟨g, 1, none⟩) zg).trans s1
  have d2 := (BW.cell (p := ⟨g, 2, none⟩) zg).trans s2
  have d3 := (BW.cell (p := ⟨g, 3, none⟩) zg).trans s3
  clear s0 s1 s2 s3
  obtain ⟨t0, t1⟩ := blk_2 T
  have i0 : (0 : Int) < (len : Int) := by omega
  have i4 : 0 < len := by omega
  have zW := BW.size
  have zR := blk_lt RB
  go_enter Tryd.func22, Tryd.ntmps22
  go_upto_region 1 with fail
  rw [← hW]
  clear hW
  have hgW : g < W.heap.size := by omega
  have hwW : w.heap.size < W.heap.size := by have := blk_lt T; omega
  have hS0 : ((fun w' => w'.cell? ⟨g, 0, none⟩ = some (.int .i64 (sAt ss 0).1.1) ∧ w'.cell? ⟨g, 1, none⟩ = some (.int .i64 (sAt ss 0).1.2) ∧ w'.cell? ⟨g, 2, none⟩ = some (.int .i64 (sAt ss 0).2.1) ∧ w'.cell? ⟨g, 3, none⟩ = some (.int .i64 (sAt ss 0).2.2) ∧ w'.cell? ⟨w.heap.size, 0, none⟩ = some (.int .i64 p.1) ∧ w'.cell? ⟨w.heap.size, 1, none⟩ = some (.int .i64 p.2))) W := ⟨d0, d1, d2, d3, t0, t1⟩
  clear d0 d1 d2 d3 t0 t1
  go_cut [5] (fun s5 wc => ∃ b, s5 = .pointer (some ⟨b, 0, none⟩) ∧ W.heap.size ≤ b ∧ wc.heap[b]? = some (.cells #[.int .i64 (F 0).1, .int .i64 (F 0).2] 32 (0, 0)) ∧ Below W.heap.size W wc)
  case first =>
    have H := bw_drew (bw_refl W)
    have hcall := (HF.out 0 (by omega)).2
    go_region_held3 (fun w' => w'.cell? ⟨g, 0, none⟩ = some (.int .i64 (sAt ss 0).1.1) ∧ w'.cell? ⟨g, 1, none⟩ = some (.int .i64 (sAt ss 0).1.2) ∧ w'.cell? ⟨g, 2, none⟩ = some (.int .i64 (sAt ss 0).2.1) ∧ w'.cell? ⟨g, 3, none⟩ = some (.int .i64 (sAt ss 0).2.2) ∧ w'.cell? ⟨w.heap.size, 0, none⟩ = some (.int .i64 p.1) ∧ w'.cell? ⟨w.heap.size, 1, none⟩ = some (.int .i64 p.2)) (first | with_reducible exact cB6 K (by assumption) | with_reducible exact cA6 (by assumption) | exact hS0 | exact cA6 hS0 | with_reducible exact cL6 (by assumption) (by have := H.size; dsimp only; omega) (by have := H.size; dsimp only; omega) (by have := H.size; dsimp only; omega) (by have := H.size; dsimp only; omega) (by have := H.size; dsimp only; omega) (by have := H.size; dsimp only; omega) | exact cS6 (by assumption) (by dsimp only; omega) (by dsimp only; omega) (by dsimp only; omega) (by dsimp only; omega) (by dsimp only; omega) (by dsimp only; omega)) ((go_at_call 47; refine (hcall _).mono ?_; rintro e zz ⟨rfl, K⟩; (first | (replace H := bw_trans H K) | (have AB := keep K (heap_new _ _); replace H := bw_trans (bw_alloc H _) K; obtain ⟨q0, q1, qf0, qf1⟩ := blkF AB))))
    all_goals go_wp2_with fail
    all_goals go_meet
    all_goals (first | exact ⟨_, rfl, H.size, heap_new _ _, bw_alloc H _⟩ | exact ⟨_, rfl, Nat.le_refl _, setF2 AB, bw_set (bw_set H (by dsimp only; omega) _) (by dsimp only; omega) _⟩)
  case rest =>
    obtain ⟨b, rfl, hbW, hO, HC⟩ := hcut
    have hO1 : wc.heap[b]? = some (.cells #[.int .i64 (M (0 + 1)).1, .int .i64 (M (0 + 1)).2] 32 (0, 0)) := by rw [HM1.out]; exact hO
    rw [Nat.zero_add] at hO1
    have hmx : Tryd.prog.follows .mixedOrders = true := by kernel_rfl
    clear hO HM1 hS0 i0 i4
    go_wp2_with fail
    go_loopw [6] (fun i wr => ∃ k : Nat, 1 ≤ k ∧ k ≤ len ∧ i = .int .i64 k ∧ wr.heap[b]? = some (.cells #[.int .i64 (M k).1, .int .i64 (M k).2] 32 (0, 0)) ∧ Below W.heap.size W wr) (fun i _ => len - (intOf i).toNat)
    case atStart => exact ⟨1, Nat.le_refl _, h1, rfl, hO1, HC⟩
    case round =>
      obtain ⟨k, hk1, hk, rfl, LB, H⟩ := hrel
      by_cases hlt : k < len
      case neg =>
        obtain rfl : len = k := by omega
        have RB1 := keep H RB
        obtain ⟨l0, l1⟩ := blk_2 LB
        obtain ⟨q0, q1, qf0, qf1⟩ := blkF RB1
        have RB2 := setF2 RB1 (u0 := .int .i64 (M len).1) (u1 := .int .i64 (M len).2)
        obtain ⟨v0, v1⟩ := blk_2 RB2
        go_wp2_with fail
        exact bodyPost_ret (v := .agg #[.int .i64 (M len).1, .int .i64 (M len).2]) (by simp [results, Tryd.results22, go_sem, v0, v1]) rfl ⟨rfl, bw_set (bw_set (bw_trans BW H) (p := ⟨w.heap.size + 1, 0, none⟩) (by dsimp only; omega) _) (p := ⟨w.heap.size + 1, 1, none⟩) (by dsimp only; omega) _⟩
      case pos =>
        have hst := HMs.out k hk1 hlt
        have hMk := HMok.out k hk1 hk
        obtain ⟨hFk, hcall⟩ := HF.out k hlt
        obtain ⟨s0, s1, s2, s3⟩ := HS.out k hlt
        have KW := bw_trans BW H
        have d0 := (KW.cell (p := ⟨g, k * 4, none⟩) zg).trans s0
        have d1 := (KW.cell (p := ⟨g, k * 4 + 1, none⟩) zg).trans s1
        have d2 := (KW.cell (p := ⟨g, k * 4 + 2, none⟩) zg).trans s2
        have d3 := (KW.cell (p := ⟨g, k * 4 + 3, none⟩) zg).trans s3
        obtain ⟨t0, t1⟩ := blk_2 (keep H T)
        have i0 : (0 : Int) ≤ (k : Int) := Int.natCast_nonneg _
        have i1 : (k : Int) < (len : Int) := by omega
        have i2 : (k : Int) ≤ 1000 := by omega
        have HST : Hid (M (k + 1) = mn (M k) (F k)) := hst
        have hL := fun v => sLeast_ok (M k) (F k) v hMk hFk
        have zb := blk_lt LB
        have zs := H.size
        clear hst s0 s1 s2 s3 hMk hFk
        have hS1 : (fun w' : World => (w'.cell? ⟨g, k * 4, none⟩ = some (.int .i64 (sAt ss k).1.1) ∧ w'.cell? ⟨g, k * 4 + 1, none⟩ = some (.int .i64 (sAt ss k).1.2) ∧ w'.cell? ⟨g, k * 4 + 2, none⟩ = some (.int .i64 (sAt ss k).2.1) ∧ w'.cell? ⟨g, k * 4 + 3, none⟩ = some (.int .i64 (sAt ss k).2.2)) ∧ w'.cell? ⟨w.heap.size, 0, none⟩ = some (.int .i64 p.1) ∧ w'.cell? ⟨w.heap.size, 1, none⟩ = some (.int .i64 p.2)) wr.drew := ⟨⟨d0, d1, d2, d3⟩, t0, t1⟩
        generalize M k = m at *
        generalize F k = f at *
        go_wp2_with fail
        refine wp_region_held (S := (fun w' : World => (w'.cell? ⟨g, k * 4, none⟩ = some (.int .i64 (sAt ss k).1.1) ∧ w'.cell? ⟨g, k * 4 + 1, none⟩ = some (.int .i64 (sAt ss k).1.2) ∧ w'.cell? ⟨g, k * 4 + 2, none⟩ = some (.int .i64 (sAt ss k).2.1) ∧ w'.cell? ⟨g, k * 4 + 3, none⟩ = some (.int .i64 (sAt ss k).2.2)) ∧ w'.cell? ⟨w.heap.size, 0, none⟩ = some (.int .i64 p.1) ∧ w'.cell? ⟨w.heap.size, 1, none⟩ = some (.int .i64 p.2))) hmx ?_
        refine wpAnyH_take (i := 1) (v := .slice (some ⟨g, 0, none⟩) len cap) rfl (by kernel_rfl) (by kernel_rfl) (by kernel_rfl) (fun _ _ _ h => h) (Or.inl ⟨by rfl, by rintro w' ⟨⟨s1, s2, s3, s4⟩, s5, s6⟩; go_simp⟩) hS1 ?_
        refine wpAnyH_take (i := 2) (v := .int .i64 (k : Int)) rfl (by kernel_rfl) (by kernel_rfl) (by kernel_rfl) (fun _ _ _ h => h) (Or.inl ⟨by rfl, by rintro w' ⟨⟨s1, s2, s3, s4⟩, s5, s6⟩; go_simp⟩) hS1 ?_
        refine wpAnyH_take (i := 3) (v := .pointer (some ⟨g, k * 4, none⟩)) rfl (by kernel_rfl) (by kernel_rfl) (by kernel_rfl) (fun _ _ _ h => h) (Or.inl ⟨by rfl, by rintro w' ⟨⟨s1, s2, s3, s4⟩, s5, s6⟩; go_simp⟩) hS1 ?_
        refine wpAnyH_take (i := 4) (v := .agg #[.int .i64 (sAt ss k).1.1, .int .i64 (sAt ss k).1.2, .int .i64 (sAt ss k).2.1, .int .i64 (sAt ss k).2.2]) rfl (by kernel_rfl) (by kernel_rfl) (by kernel_rfl) (fun _ _ _ h => h) (Or.inl ⟨by rfl, by rintro w' ⟨⟨s1, s2, s3, s4⟩, s5, s6⟩; go_simp⟩) hS1 ?_
        refine wpAnyH_take (i := 5) (v := .agg #[.int .i64 p.1, .int .i64 p.2]) rfl (by kernel_rfl) (by kernel_rfl) (by kernel_rfl) (fun _ _ _ h => h) (Or.inl ⟨by rfl, by rintro w' ⟨⟨s1, s2, s3, s4⟩, s5, s6⟩; go_simp⟩) hS1 ?_
        obtain ⟨l0, l1⟩ := blk_2 (show wr.drew.heap[b]? = _ from LB)
        refine wpAnyH_all (rs := [0, 6]) (by kernel_rfl) (by simp) ?_
        intro i hi
        have hi' : i = 0 ∨ i = 6 := by simpa using hi
        clear hi
        rcases hi' with rfl | rfl
        · skip
          refine YieldsIf.wpOp (S := fun w' => w' = wr.drew) (v := .agg #[.int .i64 m.1, .int .i64 m.2]) rfl (Or.inl ⟨by rfl, by rintro w' rfl; go_simp⟩) rfl ⟨hS1, ?_⟩
          refine wpAnyH_all (rs := [6]) (by kernel_rfl) (by simp) ?_
          intro i hi
          obtain rfl : i = 6 := by simpa using hi
          refine wpOp_now rfl (by rfl) ?_
          go_simp
          refine (hcall _).mono ?_
          rintro e y1 ⟨rfl, J1⟩
          have hS2 : (fun w' : World => (w'.cell? ⟨g, k * 4, none⟩ = some (.int .i64 (sAt ss k).1.1) ∧ w'.cell? ⟨g, k * 4 + 1, none⟩ = some (.int .i64 (sAt ss k).1.2) ∧ w'.cell? ⟨g, k * 4 + 2, none⟩ = some (.int .i64 (sAt ss k).2.1) ∧ w'.cell? ⟨g, k * 4 + 3, none⟩ = some (.int .i64 (sAt ss k).2.2)) ∧ w'.cell? ⟨w.heap.size, 0, none⟩ = some (.int .i64 p.1) ∧ w'.cell? ⟨w.heap.size, 1, none⟩ = some (.int .i64 p.2)) y1 := ⟨cB4 J1 hS1.1, cellB J1 hS1.2.1, cellB J1 hS1.2.2⟩
          refine ⟨hS2, ?_⟩
          refine wpAnyH_all (rs := [7]) (by kernel_rfl) (by simp) ?_
          intro i hi
          obtain rfl : i = 7 := by simpa using hi
          refine wpOp_now rfl (by rfl) ?_
          go_simp
          refine (hL _).mono ?_
          rintro e y2 ⟨rfl, J2⟩
          have hS3 : (fun w' : World => (w'.cell? ⟨g, k * 4, none⟩ = some (.int .i64 (sAt ss k).1.1) ∧ w'.cell? ⟨g, k * 4 + 1, none⟩ = some (.int .i64 (sAt ss k).1.2) ∧ w'.cell? ⟨g, k * 4 + 2, none⟩ = some (.int .i64 (sAt ss k).2.1) ∧ w'.cell? ⟨g, k * 4 + 3, none⟩ = some (.int .i64 (sAt ss k).2.2)) ∧ w'.cell? ⟨w.heap.size, 0, none⟩ = some (.int .i64 p.1) ∧ w'.cell? ⟨w.heap.size, 1, none⟩ = some (.int .i64 p.2)) y2 := ⟨cB4 J2 hS2.1, cellB J2 hS2.2.1, cellB J2 hS2.2.2⟩
          refine ⟨hS3, ?_⟩
          have H2 : Below W.heap.size W y2 := bw_trans (bw_trans H.drew J1) J2
          have LB2 := keep J2 (keep J1 (show wr.drew.heap[b]? = _ from LB))
          obtain ⟨q0, q1, qf0, qf1⟩ := blkF LB2
          refine wpAnyH_all (rs := [8]) (by kernel_rfl) (by simp) ?_
          intro i hi
          obtain rfl : i = 8 := by simpa using hi
          refine wpOp_now rfl (by rfl) ?_
          go_simp
          refine wpAnyH_done (by kernel_rfl) ?_ _
          try simp only [Exit.inBlock, Exit.then]
          have LB3 := setF2 LB2 (u0 := .int .i64 (mn m f).1) (u1 := .int .i64 (mn m f).2)
          have H3 := bw_set (bw_set H2 (p := ⟨b, 0, none⟩) hbW (.int .i64 (mn m f).1)) (p := ⟨b, 1, none⟩) hbW (.int .i64 (mn m f).2)
          go_wp2_with fail
          go_roundw
          case rel => exact ⟨k + 1, by omega, by omega, by simp, by rw [HST.out]; exact LB3, H3⟩
          case measure => simp [intOf]; omega
        · skip
          refine wpOp_now rfl (by rfl) ?_
          go_simp
          refine (hcall _).mono ?_
          rintro e y1 ⟨rfl, J1⟩
          have hS2 : (fun w' : World => (w'.cell? ⟨g, k * 4, none⟩ = some (.int .i64 (sAt ss k).1.1) ∧ w'.cell? ⟨g, k * 4 + 1, none⟩ = some (.int .i64 (sAt ss k).1.2) ∧ w'.cell? ⟨g, k * 4 + 2, none⟩ = some (.int .i64 (sAt ss k).2.1) ∧ w'.cell? ⟨g, k * 4 + 3, none⟩ = some (.int .i64 (sAt ss k).2.2)) ∧ w'.cell? ⟨w.heap.size, 0, none⟩ = some (.int .i64 p.1) ∧ w'.cell? ⟨w.heap.size, 1, none⟩ = some (.int .i64 p.2)) y1 := ⟨cB4 J1 hS1.1, cellB J1 hS1.2.1, cellB J1 hS1.2.2⟩
          refine ⟨hS2, ?_⟩
          obtain ⟨l0', l1'⟩ := blk_2 (keep J1 (show wr.drew.heap[b]? = _ from LB))
          refine wpAnyH_all (rs := [0]) (by kernel_rfl) (by simp) ?_
          intro i hi
          obtain rfl : i = 0 := by simpa using hi
          refine YieldsIf.wpOp (S := fun w' => w' = y1) (v := .agg #[.int .i64 m.1, .int .i64 m.2]) rfl (Or.inl ⟨by rfl, by rintro w' rfl; go_simp⟩) rfl ⟨hS2, ?_⟩
          refine wpAnyH_all (rs := [7]) (by kernel_rfl) (by simp) ?_
          intro i hi
          obtain rfl : i = 7 := by simpa using hi
          refine wpOp_now rfl (by rfl) ?_
          go_simp
          refine (hL _).mono ?_
          rintro e y2 ⟨rfl, J2⟩
          have hS3 : (fun w' : World => (w'.cell? ⟨g, k * 4, none⟩ = some (.int .i64 (sAt ss k).1.1) ∧ w'.cell? ⟨g, k * 4 + 1, none⟩ = some (.int .i64 (sAt ss k).1.2) ∧ w'.cell? ⟨g, k * 4 + 2, none⟩ = some (.int .i64 (sAt ss k).2.1) ∧ w'.cell? ⟨g, k * 4 + 3, none⟩ = some (.int .i64 (sAt ss k).2.2)) ∧ w'.cell? ⟨w.heap.size, 0, none⟩ = some (.int .i64 p.1) ∧ w'.cell? ⟨w.heap.size, 1, none⟩ = some (.int .i64 p.2)) y2 := ⟨cB4 J2 hS2.1, cellB J2 hS2.2.1, cellB J2 hS2.2.2⟩
          refine ⟨hS3, ?_⟩
          have H2 : Below W.heap.size W y2 := bw_trans (bw_trans H.drew J1) J2
          have LB2 := keep J2 (keep J1 (show wr.drew.heap[b]? = _ from LB))
          obtain ⟨q0, q1, qf0, qf1⟩ := blkF LB2
          refine wpAnyH_all (rs := [8]) (by kernel_rfl) (by simp) ?_
          intro i hi
          obtain rfl : i = 8 := by simpa using hi
          refine wpOp_now rfl (by rfl) ?_
          go_simp
          refine wpAnyH_done (by kernel_rfl) ?_ _
          try simp only [Exit.inBlock, Exit.then]
          have LB3 := setF2 LB2 (u0 := .int .i64 (mn m f).1) (u1 := .int .i64 (mn m f).2)
          have H3 := bw_set (bw_set H2 (p := ⟨b, 0, none⟩) hbW (.int .i64 (mn m f).1)) (p := ⟨b, 1, none⟩) hbW (.int .i64 (mn m f).2)
          go_wp2_with fail
          go_roundw
          case rel => exact ⟨k + 1, by omega, by omega, by simp, by rw [HST.out]; exact LB3, H3⟩
          case measure => simp [intOf]; omega
end Go.Proofs.YtlikfcfblkckaaaDoor
namespace Go.Proofs.YtlikfcfblkckaaaDoor
open Go.RowKit Go.Sort

/-- A row of edges that a call made itself. -/
theorem row_of_owns {base : Nat} {W : World} {v : Value} {ss : List (P2 × P2)} (h : W.ownsRow base 98 4 v ss.length (cellsS ss)) (hs : 0 < ss.length) : ∃ g c, v = .slice (some ⟨g, 0, none⟩) ss.length c ∧ g < W.heap.size ∧ SRow W g ss := by
  have := AnsS.of_owns h rfl
  rcases this with ⟨rfl, a, c, rfl⟩ | ⟨g, c, rfl, _, _, _, hO, hS⟩
  · simp at hs
  · exact ⟨g, c, rfl, hO.lt, hS⟩
set_option maxRecDepth 100000 in
set_option maxHeartbeats 2000000 in
theorem sPlateFar_any (a ah : Option Addr) (la ca nh ch : Nat) (o : List P2) (hs : List (List P2)) (p : P2) (w : World) (h : Plt w a la ah nh o hs) :
    Calls Tryd.prog 7 #[.agg #[.slice a la ca, .slice ah nh ch], .agg #[.int .i64 p.1, .int .i64 p.2]] w fun e W' => e = .returned (.agg #[.int .i64 (plFV o hs p).1, .int .i64 (plFV o hs p).2]) ∧ Below w.heap.size w W' := by
  obtain ⟨W, hW, BW, TP, T, RB⟩ := boxes3 w (.cells #[.slice a la ca, .slice ah nh ch] 26) (.cells #[.int .i64 p.1, .int .i64 p.2] 28) (.cells #[.int .i64 0, .int .i64 0] 32)
  have hh := h.below BW
  obtain ⟨t0, t1⟩ := blk_2 TP
  have zP := blk_lt TP
  have zR := blk_lt RB
  have zB := BW.size
  have hcall := sPlateOk_any a ah la ca nh ch o hs W hh
  cases hv : plV o hs
  · rw [hv] at hcall
    have e1 : Hid (plFV o hs p = (0, 0)) := plFV_no (.inl hv)
    go_enter Tryd.func7, Tryd.ntmps7
    go_upto_region 1 with fail
    rw [← hW]
    clear hW
    go_wp2_with (go_at_call 8; refine hcall.mono ?_; rintro e w1 ⟨rfl, J⟩; have RB1 := keep J RB; obtain ⟨q0, q1, qf0, qf1⟩ := blkF RB1)
    have RB2 := setF2 RB1 (u0 := .int .i64 0) (u1 := .int .i64 0)
    obtain ⟨v0, v1⟩ := blk_2 RB2
    exact bodyPost_ret (v := .agg #[.int .i64 0, .int .i64 0]) (by simp [results, Tryd.results7, go_sem, v0, v1]) rfl ⟨by rw [e1.out], bw_set (bw_set (bw_trans BW J) (p := ⟨w.heap.size + 2, 0, none⟩) (by dsimp only; omega) _) (p := ⟨w.heap.size + 2, 1, none⟩) (by dsimp only; omega) _⟩
  rw [hv] at hcall
  cases hp : ptB p.1 p.2
  · have e1 : Hid (plFV o hs p = (0, 0)) := plFV_no (.inr hp)
    go_enter Tryd.func7, Tryd.ntmps7
    go_upto_region 1 with fail
    rw [← hW]
    clear hW
    go_wp2_with (go_at_call 8; refine hcall.mono ?_; rintro e w1 ⟨rfl, J⟩; obtain ⟨s0, s1⟩ := blk_2 (keep J T))
    refine (sPt_raw p _).mono ?_
    rw [hp]
    rintro e w2 ⟨rfl, J2⟩
    have RB1 := keep (bw_trans J J2) RB
    obtain ⟨q0, q1, qf0, qf1⟩ := blkF RB1
    have RB2 := setF2 RB1 (u0 := .int .i64 0) (u1 := .int .i64 0)
    obtain ⟨v0, v1⟩ := blk_2 RB2
    go_wp2_with fail
    exact bodyPost_ret (v := .agg #[.int .i64 0, .int .i64 0]) (by simp [results, Tryd.results7, go_sem, v0, v1]) rfl ⟨by rw [e1.out], bw_set (bw_set (bw_trans (bw_trans BW J) J2) (p := ⟨w.heap.size + 2, 0, none⟩) (by dsimp only; omega) _) (p := ⟨w.heap.size + 2, 1, none⟩) (by dsimp only; omega) _⟩
  · have e1 : Hid (plFV o hs p = plFI o hs p) := plFV_ok hv hp
    have n3 := plE_ne hv
    have n24 := plE_len o hs
    have hok : ∀ s ∈ plE o hs, sgP s.1 s.2 = true := fun s hs => plE_ok hv hs
    go_enter Tryd.func7, Tryd.ntmps7
    go_upto_region 1 with fail
    rw [← hW]
    clear hW
    go_wp2_with (go_at_call 8; refine hcall.mono ?_; rintro e w1 ⟨rfl, J⟩; obtain ⟨s0, s1⟩ := blk_2 (keep J T))
    refine (sPt_raw p _).mono ?_
    rw [hp]
    rintro e w2 ⟨rfl, J2⟩
    have J3 := bw_trans J J2
    clear s0 s1 t0 t1
    obtain ⟨s0, s1⟩ := blk_2 (keep J3 T)
    obtain ⟨t0, t1⟩ := blk_2 (keep J3 TP)
    have hmx : Tryd.prog.follows .mixedOrders = true := by kernel_rfl
    have hS1 : (fun w' : World => (w'.cell? ⟨w.heap.size, 0, none⟩ = some (.slice a la ca) ∧ w'.cell? ⟨w.heap.size, 1, none⟩ = some (.slice ah nh ch)) ∧ w'.cell? ⟨w.heap.size + 1, 0, none⟩ = some (.int .i64 p.1) ∧ w'.cell? ⟨w.heap.size + 1, 1, none⟩ = some (.int .i64 p.2)) w2.drew := ⟨⟨t0, t1⟩, s0, s1⟩
    have hE := l11Edges_ok a ah la ca nh ch o hs hv w2.drew ((hh.below J3).below (bw_drew (bw_refl _)))
    obtain ⟨N, hN⟩ : ∃ N, (plE o hs).length = N := ⟨_, rfl⟩
    have hX : Hid (∀ g c v, SRow v g (plE o hs) → g < v.heap.size → Calls Tryd.prog 22 #[.slice (some ⟨g, 0, none⟩) N c, .agg #[.int .i64 p.1, .int .i64 p.2]] v fun e W' => e = .returned (.agg #[.int .i64 (plFV o hs p).1, .int .i64 (plFV o hs p).2]) ∧ Below v.heap.size v W') := fun g c v hR hg => by
      have := sL11Far_ok g N c (plE o hs) p v hR hg hN (by omega) (by omega) hok hp
      rw [e1.out]; exact this
    clear hok n24
    go_wp2_with fail
    refine wp_region_held (S := (fun w' : World => (w'.cell? ⟨w.heap.size, 0, none⟩ = some (.slice a la ca) ∧ w'.cell? ⟨w.heap.size, 1, none⟩ = some (.slice ah nh ch)) ∧ w'.cell? ⟨w.heap.size + 1, 0, none⟩ = some (.int .i64 p.1) ∧ w'.cell? ⟨w.heap.size + 1, 1, none⟩ = some (.int .i64 p.2))) hmx ?_
    refine wpAnyH_take (i := 0) (v := .agg #[.slice a la ca, .slice ah nh ch]) rfl (by kernel_rfl) (by kernel_rfl) (by kernel_rfl) (fun _ _ _ h => h) (Or.inl ⟨by rfl, by rintro w' ⟨⟨s1, s2⟩, s3, s4⟩; go_simp⟩) hS1 ?_
    refine wpAnyH_take (i := 2) (v := .agg #[.int .i64 p.1, .int .i64 p.2]) rfl (by kernel_rfl) (by kernel_rfl) (by kernel_rfl) (fun _ _ _ h => h) (Or.inl ⟨by rfl, by rintro w' ⟨⟨s1, s2⟩, s3, s4⟩; go_simp⟩) hS1 ?_
    refine wpAnyH_all (rs := [1]) (by kernel_rfl) (by simp) ?_
    intro i hi
    obtain rfl : i = 1 := by simpa using hi
    refine wpOp_now rfl (by rfl) ?_
    go_simp
    refine hE.mono ?_
    rintro e y1 ⟨v, rfl, ho, J4⟩
    obtain ⟨g, c, rfl, hg, hR⟩ := row_of_owns ho (by omega)
    rw [hN]
    have hS2 : (fun w' : World => (w'.cell? ⟨w.heap.size, 0, none⟩ = some (.slice a la ca) ∧ w'.cell? ⟨w.heap.size, 1, none⟩ = some (.slice ah nh ch)) ∧ w'.cell? ⟨w.heap.size + 1, 0, none⟩ = some (.int .i64 p.1) ∧ w'.cell? ⟨w.heap.size + 1, 1, none⟩ = some (.int .i64 p.2)) y1 := ⟨⟨cellB J4 hS1.1.1, cellB J4 hS1.1.2⟩, cellB J4 hS1.2.1, cellB J4 hS1.2.2⟩
    refine ⟨hS2, ?_⟩
    refine wpAnyH_all (rs := [3]) (by kernel_rfl) (by simp) ?_
    intro i hi
    obtain rfl : i = 3 := by simpa using hi
    refine wpOp_now rfl (by rfl) ?_
    go_simp
    refine (hX.out g c _ hR hg).mono ?_
    rintro e y2 ⟨rfl, J5⟩
    have hS3 : (fun w' : World => (w'.cell? ⟨w.heap.size, 0, none⟩ = some (.slice a la ca) ∧ w'.cell? ⟨w.heap.size, 1, none⟩ = some (.slice ah nh ch)) ∧ w'.cell? ⟨w.heap.size + 1, 0, none⟩ = some (.int .i64 p.1) ∧ w'.cell? ⟨w.heap.size + 1, 1, none⟩ = some (.int .i64 p.2)) y2 := ⟨⟨cellB J5 hS2.1.1, cellB J5 hS2.1.2⟩, cellB J5 hS2.2.1, cellB J5 hS2.2.2⟩
    refine ⟨hS3, ?_⟩
    have RB1 := keep (bw_trans (bw_trans J3.drew J4) J5) RB
    obtain ⟨q0, q1, qf0, qf1⟩ := blkF RB1
    refine wpAnyH_all (rs := [4]) (by kernel_rfl) (by simp) ?_
    intro i hi
    obtain rfl : i = 4 := by simpa using hi
    refine wpOp_now rfl (by rfl) ?_
    go_simp
    refine wpAnyH_done (by kernel_rfl) ?_ _
    try simp only [Exit.then]
    have RB2 := setF2 RB1 (u0 := .int .i64 (plFV o hs p).1) (u1 := .int .i64 (plFV o hs p).2)
    obtain ⟨v0, v1⟩ := blk_2 RB2
    go_wp2_with fail
    exact bodyPost_ret (v := .agg #[.int .i64 (plFV o hs p).1, .int .i64 (plFV o hs p).2]) (by simp [results, Tryd.results7, go_sem, v0, v1]) rfl ⟨rfl, bw_set (bw_set (bw_trans (bw_trans (bw_trans BW J3.drew) J4) J5) (p := ⟨w.heap.size + 2, 0, none⟩) (by dsimp only; omega) _) (p := ⟨w.heap.size + 2, 1, none⟩) (by dsimp only; omega) _⟩
end Go.Proofs.YtlikfcfblkckaaaDoor
namespace Go.Proofs.YtlikfcfblkckaaaDoor
open Go.RowKit Go.Sort

theorem eqFrac_is (n d : Int) (w : World) :
    Calls Tryd.prog 14 #[.agg #[.int .i64 n, .int .i64 d], .agg #[.int .i64 n, .int .i64 d]] w fun e w' => e = .returned (.bool true) ∧ Below w.heap.size w w' := by
  go_enter Tryd.func14, Tryd.ntmps14
  go_wp2
  go_ret
  exact ⟨rfl, (by repeat (first | exact bw_refl _ | assumption | apply bw_drewN | apply bw_drew | apply bw_alloc | refine bw_set ?_ (by simp) _))⟩
end Go.Proofs.YtlikfcfblkckaaaDoor
namespace Go.Proofs.YtlikfcfblkckaaaDoor
open Go.RowKit Go.Sort

set_option maxRecDepth 100000 in
set_option maxHeartbeats 8000000 in
theorem exPlateFar_walk (W : World) (a : Option Addr) (la ca : Nat) (o : List P2) (ah : Option Addr) (nh ch : Nat) (hs : List (List P2)) (hC : Came W a la ca o) (hH : CameH W ah nh hs) (x y : Int) (_ : (Lit.int .i64 x).wf = true) (_ : (Lit.int .i64 y).wf = true) (ad : Addr) (h0 : Sent ad W) :
    Calls Tryd.prog 4 #[.agg #[.slice a la ca, .slice ah nh ch], .agg #[.int .i64 x, .int .i64 y]] W fun e w' => e = .returned (.bool true) ∧ Below W.heap.size W w' := by
  have hla := hC.len.2
  have hP := hC.pts
  obtain ⟨hlen, hnm, A, L, C, hS, hHH⟩ := hH
  have hcall := szPlate_any a ah la ca nh ch A L C hla hnm (fun j hj => (hHH j hj).len.2)
  obtain ⟨W1, hW1, BW, T, TP⟩ := boxes2 W (.cells #[.slice a la ca, .slice ah nh ch] 41) (.cells #[.int .i64 x, .int .i64 y] 42)
  replace hcall := hcall W1 ((hS.below BW).grow BW.size)
  obtain ⟨t0, t1⟩ := blk_2 T
  go_enter Tryd.func4, Tryd.ntmps4
  go_upto_region 2 with fail
  rw [← hW1]
  clear hW1
  go_wp2_with fail
  refine hcall.mono ?_
  clear hcall
  rintro e w1 ⟨J1, hr⟩
  have K1 := bw_trans BW J1
  rcases hr with rfl | ⟨r, r0, r1, rfl, hla1, hn, hLL⟩
  · go_wp2_with fail
    go_ret
    exact ⟨rfl, K1⟩
  have hr0 : ¬ (r < 0) := by omega
  have hPl : Plt w1 a la ah nh o hs := ⟨hla1, (hP.below K1).grow K1.size, hlen, A, L, C, (hS.below K1).grow K1.size, fun j hj => ⟨hLL j hj, ((hHH j hj).pts.below K1).grow K1.size⟩⟩
  clear hS hHH hP hC hLL
  replace T := keep J1 T
  clear t0 t1
  replace TP := keep J1 TP
  obtain ⟨f, hf⟩ : ∃ f, plFV o hs (x, y) = f := ⟨_, rfl⟩
  have zT := blk_lt T
  have zTP := blk_lt TP
  go_wp2_with fail
  go_cut [6] (fun s5 wc => ∃ b, s5 = .pointer (some ⟨b, 0, none⟩) ∧ wc.heap[b]? = some (.cells #[.int .i64 f.1, .int .i64 f.2] 32 (0, 0)) ∧ Below w1.heap.size w1 wc)
  case first =>
    have H := bw_drew (bw_refl w1)
    have hS0 : (fun w' : World => w'.cell? ⟨W.heap.size, 0, none⟩ = some (.slice a la ca) ∧ w'.cell? ⟨W.heap.size, 1, none⟩ = some (.slice ah nh ch) ∧ w'.cell? ⟨W.heap.size + 1, 0, none⟩ = some (.int .i64 x) ∧ w'.cell? ⟨W.heap.size + 1, 1, none⟩ = some (.int .i64 y) ∧ w'.cell? ⟨W.heap.size, 0, none⟩ = some (.slice a la ca) ∧ w'.cell? ⟨W.heap.size, 1, none⟩ = some (.slice ah nh ch)) w1 := ⟨(blk_2 T).1, (blk_2 T).2, (blk_2 TP).1, (blk_2 TP).2, (blk_2 T).1, (blk_2 T).2⟩
    have hX : ∀ V, Below w1.heap.size w1 V → Calls Tryd.prog 12 #[.agg #[.slice a la ca, .slice ah nh ch]] V _ := fun V hV => toPlate_any a ah la ca nh ch o hs V (hPl.below hV) hn
    have hY : ∀ V g2 gh2, Plt V (some ⟨g2, 0, none⟩) la (some ⟨gh2, 0, none⟩) nh o hs → Calls Tryd.prog 7 #[.agg #[.slice (some ⟨g2, 0, none⟩) la la, .slice (some ⟨gh2, 0, none⟩) nh nh], .agg #[.int .i64 x, .int .i64 y]] V fun e W' => e = .returned (.agg #[.int .i64 f.1, .int .i64 f.2]) ∧ Below V.heap.size V W' := fun V g2 gh2 hV => by
      have := sPlateFar_any _ _ la la nh nh o hs (x, y) V hV
      rwa [hf] at this
    go_region_held3 (fun w' : World => w'.cell? ⟨W.heap.size, 0, none⟩ = some (.slice a la ca) ∧ w'.cell? ⟨W.heap.size, 1, none⟩ = some (.slice ah nh ch) ∧ w'.cell? ⟨W.heap.size + 1, 0, none⟩ = some (.int .i64 x) ∧ w'.cell? ⟨W.heap.size + 1, 1, none⟩ = some (.int .i64 y) ∧ w'.cell? ⟨W.heap.size, 0, none⟩ = some (.slice a la ca) ∧ w'.cell? ⟨W.heap.size, 1, none⟩ = some (.slice ah nh ch))
      (first | with_reducible exact cB6 J (by assumption) | with_reducible exact cA6 (by assumption) | exact hS0 | exact cA6 hS0 | with_reducible exact cL6 (by assumption) (by have := H.size; dsimp only; omega) (by have := H.size; dsimp only; omega) (by have := H.size; dsimp only; omega) (by have := H.size; dsimp only; omega) (by have := H.size; dsimp only; omega) (by have := H.size; dsimp only; omega) | exact cS6 (by assumption) (by dsimp only; omega) (by dsimp only; omega) (by dsimp only; omega) (by dsimp only; omega) (by dsimp only; omega) (by dsimp only; omega))
      (first
        | (go_at_call 12; refine (hX _ (by first | exact H | exact bw_alloc H _)).mono ?_; rintro e w2 ⟨g2, gh2, rfl, hPl2, J⟩; (first | (replace H := bw_trans H J; first | (replace AB := keep J AB; clear q0 q1 qf0 qf1; obtain ⟨q0, q1, qf0, qf1⟩ := blkF AB) | skip) | (have zb := H.size; have AB := keep J (heap_new _ _); replace H := bw_trans (bw_alloc H _) J; obtain ⟨q0, q1, qf0, qf1⟩ := blkF AB)); have H2 := bw_refl w2)
        | (go_at_call 13; refine (toPt_any _ _ _).mono ?_; rintro e w2b ⟨rfl, J⟩; (first | (replace H := bw_trans H J; first | (replace AB := keep J AB; clear q0 q1 qf0 qf1; obtain ⟨q0, q1, qf0, qf1⟩ := blkF AB) | skip) | (have zb := H.size; have AB := keep J (heap_new _ _); replace H := bw_trans (bw_alloc H _) J; obtain ⟨q0, q1, qf0, qf1⟩ := blkF AB)); (first | replace H2 := bw_trans H2 J | replace H2 := bw_trans (bw_alloc H2 _) J | skip))
        | (go_at_call 7; refine (hY _ _ _ (by first | exact hPl2.below H2 | exact hPl2.below (bw_alloc H2 _))).mono ?_; rintro e w3 ⟨rfl, J⟩; (first | (replace H := bw_trans H J; first | (replace AB := keep J AB; clear q0 q1 qf0 qf1; obtain ⟨q0, q1, qf0, qf1⟩ := blkF AB) | skip) | (have zb := H.size; have AB := keep J (heap_new _ _); replace H := bw_trans (bw_alloc H _) J; obtain ⟨q0, q1, qf0, qf1⟩ := blkF AB)); (first | replace H2 := bw_trans H2 J | replace H2 := bw_trans (bw_alloc H2 _) J | skip)))
    all_goals go_wp2_with fail
    all_goals go_meet
    all_goals (first | exact ⟨_, rfl, heap_new _ _, bw_alloc H _⟩ | exact ⟨_, rfl, setF2 AB, bw_set (bw_set H (by dsimp only; omega) _) (by dsimp only; omega) _⟩)
  case rest =>
    obtain ⟨b5, rfl, F5, H5⟩ := hcut
    replace T := keep H5 T
    replace TP := keep H5 TP
    replace hPl := hPl.below H5
    have K5 := bw_trans K1 H5
    clear K1 J1 H5 zT zTP
    obtain ⟨t0, t1⟩ := blk_2 T
    go_wp2_with fail
    refine (toPlate_any a ah la ca nh ch o hs _ hPl hn).mono ?_
    rintro e w4 ⟨g4, gh4, rfl, hPl4, J4⟩
    obtain ⟨w5, hw5, B5, X⟩ : ∃ w5, w5 = w4.alloc (.cells #[.slice (some ⟨g4, 0, none⟩) la la, .slice (some ⟨gh4, 0, none⟩) nh nh] 26) ∧ Below w4.heap.size w4 w5 ∧ w5.heap[w4.heap.size]? = some (.cells #[.slice (some ⟨g4, 0, none⟩) la la, .slice (some ⟨gh4, 0, none⟩) nh nh] 26 (0, 0)) := ⟨_, rfl, (by repeat (first | exact bw_refl _ | assumption | apply bw_drewN | apply bw_drew | apply bw_alloc | refine bw_set ?_ (by simp) _)), heap_new _ _⟩
    have J5 := bw_trans J4 B5
    replace F5 := keep J5 F5
    replace T := keep J5 T
    replace TP := keep J5 TP
    replace hPl := hPl.below J5
    replace hPl4 := hPl4.below B5
    replace K5 := bw_trans K5 J5
    clear J4 J5 B5 t0 t1
    go_upto_region 7 with fail
    rw [← hw5]
    clear hw5
    have zX := blk_lt X
    have zTP := blk_lt TP
    go_cut [8] (fun s8 wc => ∃ b, s8 = .pointer (some ⟨b, 0, none⟩) ∧ wc.heap[b]? = some (.cells #[.int .i64 f.1, .int .i64 f.2] 32 (0, 0)) ∧ Below w5.heap.size w5 wc)
    case first =>
      have H := bw_drew (bw_refl w5)
      have hS0 : (fun w' : World => w'.cell? ⟨w4.heap.size, 0, none⟩ = some (.slice (some ⟨g4, 0, none⟩) la la) ∧ w'.cell? ⟨w4.heap.size, 1, none⟩ = some (.slice (some ⟨gh4, 0, none⟩) nh nh) ∧ w'.cell? ⟨W.heap.size + 1, 0, none⟩ = some (.int .i64 x) ∧ w'.cell? ⟨W.heap.size + 1, 1, none⟩ = some (.int .i64 y) ∧ w'.cell? ⟨w4.heap.size, 0, none⟩ = some (.slice (some ⟨g4, 0, none⟩) la la) ∧ w'.cell? ⟨w4.heap.size, 1, none⟩ = some (.slice (some ⟨gh4, 0, none⟩) nh nh)) w5 := ⟨(blk_2 X).1, (blk_2 X).2, (blk_2 TP).1, (blk_2 TP).2, (blk_2 X).1, (blk_2 X).2⟩
      have hY : ∀ V, Below w5.heap.size w5 V → Calls Tryd.prog 6 #[.agg #[.slice (some ⟨g4, 0, none⟩) la la, .slice (some ⟨gh4, 0, none⟩) nh nh], .agg #[.int .i64 x, .int .i64 y]] V fun e W' => e = .returned (.agg #[.int .i64 f.1, .int .i64 f.2]) ∧ Below V.heap.size V W' := fun V hV => by
        have := plateFar_any _ _ la la nh nh o hs (x, y) ad V (h0.below (bw_trans K5 hV)) (hPl4.below hV)
        rwa [hf] at this
      go_region_held3 (fun w' : World => w'.cell? ⟨w4.heap.size, 0, none⟩ = some (.slice (some ⟨g4, 0, none⟩) la la) ∧ w'.cell? ⟨w4.heap.size, 1, none⟩ = some (.slice (some ⟨gh4, 0, none⟩) nh nh) ∧ w'.cell? ⟨W.heap.size + 1, 0, none⟩ = some (.int .i64 x) ∧ w'.cell? ⟨W.heap.size + 1, 1, none⟩ = some (.int .i64 y) ∧ w'.cell? ⟨w4.heap.size, 0, none⟩ = some (.slice (some ⟨g4, 0, none⟩) la la) ∧ w'.cell? ⟨w4.heap.size, 1, none⟩ = some (.slice (some ⟨gh4, 0, none⟩) nh nh))
        (first | with_reducible exact cB6 J (by assumption) | with_reducible exact cA6 (by assumption) | exact hS0 | exact cA6 hS0 | with_reducible exact cL6 (by assumption) (by have := H.size; dsimp only; omega) (by have := H.size; dsimp only; omega) (by have := H.size; dsimp only; omega) (by have := H.size; dsimp only; omega) (by have := H.size; dsimp only; omega) (by have := H.size; dsimp only; omega) | exact cS6 (by assumption) (by dsimp only; omega) (by dsimp only; omega) (by dsimp only; omega) (by dsimp only; omega) (by dsimp only; omega) (by dsimp only; omega))
        (first
          | (go_at_call 13; refine (toPt_any _ _ _).mono ?_; rintro e w2b ⟨rfl, J⟩; (first | (replace H := bw_trans H J; first | (replace AB := keep J AB; clear q0 q1 qf0 qf1; obtain ⟨q0, q1, qf0, qf1⟩ := blkF AB) | skip) | (have zb := H.size; have AB := keep J (heap_new _ _); replace H := bw_trans (bw_alloc H _) J; obtain ⟨q0, q1, qf0, qf1⟩ := blkF AB)))
          | (go_at_call 6; refine (hY _ (by first | exact H | exact bw_alloc H _)).mono ?_; rintro e w3 ⟨rfl, J⟩; (first | (replace H := bw_trans H J; first | (replace AB := keep J AB; clear q0 q1 qf0 qf1; obtain ⟨q0, q1, qf0, qf1⟩ := blkF AB) | skip) | (have zb := H.size; have AB := keep J (heap_new _ _); replace H := bw_trans (bw_alloc H _) J; obtain ⟨q0, q1, qf0, qf1⟩ := blkF AB))))
      all_goals go_wp2_with fail
      all_goals go_meet
      all_goals (first | exact ⟨_, rfl, heap_new _ _, bw_alloc H _⟩ | exact ⟨_, rfl, setF2 AB, bw_set (bw_set H (by dsimp only; omega) _) (by dsimp only; omega) _⟩)
    case rest =>
      obtain ⟨b8, rfl, F8, H8⟩ := hcut
      replace F5 := keep H8 F5
      replace T := keep H8 T
      replace X := keep H8 X
      replace hPl := hPl.below H8
      replace hPl4 := hPl4.below H8
      replace K5 := bw_trans K5 H8
      clear H8 zX zTP
      obtain ⟨m0, m1⟩ := blk_2 F5
      obtain ⟨p0, p1⟩ := blk_2 F8
      go_wp2_with fail
      refine (eqFrac_is f.1 f.2 _).mono ?_
      rintro e w9 ⟨rfl, J9⟩
      replace T := keep J9 T
      replace X := keep J9 X
      replace hPl := hPl.below J9
      replace hPl4 := hPl4.below J9
      replace K5 := bw_trans K5 J9
      clear J9 m0 m1 p0 p1
      obtain ⟨t0, t1⟩ := blk_2 T
      obtain ⟨x0, x1⟩ := blk_2 X
      go_wp2_with fail
      have TD : w9.drew.heap[W.heap.size]? = some (.cells #[.slice a la ca, .slice ah nh ch] 41) := T
      have XD : w9.drew.heap[w4.heap.size]? = some (.cells #[.slice (some ⟨g4, 0, none⟩) la la, .slice (some ⟨gh4, 0, none⟩) nh nh] 26) := X
      have hPlD : Plt w9.drew a la ah nh o hs := hPl
      have hPl4D : Plt w9.drew (some ⟨g4, 0, none⟩) la (some ⟨gh4, 0, none⟩) nh o hs := hPl4
      have KD : Below W.heap.size W w9.drew := K5.drew
      go_region_held3 (fun w' => (w'.cell? ⟨W.heap.size, 0, none⟩ = some (.slice a la ca) ∧ w'.cell? ⟨W.heap.size, 1, none⟩ = some (.slice ah nh ch)) ∧ (w'.cell? ⟨w4.heap.size, 0, none⟩ = some (.slice (some ⟨g4, 0, none⟩) la la) ∧ w'.cell? ⟨w4.heap.size, 1, none⟩ = some (.slice (some ⟨gh4, 0, none⟩) nh nh)))
        (first | go_keep | exact ⟨blk_2 TD, blk_2 XD⟩)
        (first
          | (go_at_call 12; refine (toPlate_any a ah la ca nh ch o hs _ hPlD hn).mono ?_; rintro e w8 ⟨g8, gh8, rfl, hPl8, J⟩; replace KD := bw_trans KD J; replace TD := keep J TD; replace XD := keep J XD; replace hPl4D := hPl4D.below J; clear J)
          | (go_at_call 15; refine (eqPlate_same _ _ _ _ la la nh nh la nh o hs _ hPl4D hPl8 hn).mono ?_; rintro e w10 ⟨rfl, J⟩; replace KD := bw_trans KD J; replace TD := keep J TD; replace XD := keep J XD; clear J))
      go_wp2_with fail
      go_ret
      exact ⟨rfl, KD⟩
end Go.Proofs.YtlikfcfblkckaaaDoor
namespace Go.Proofs.YtlikfcfblkckaaaDoor
open Go.ChangeShapes Go.WideShapes Go.ChangeAt Go.RowKit

theorem own : ownKnob Tryd.prog.godebug = none := by kernel_rfl
theorem laidOut : laidOutB Tryd.prog = true := by kernel_rfl
theorem gE : Tryd.prog.globalNamed "loop.example/mortiser/impl.errNoFrac" = some 0 := by kernel_rfl
theorem gEType : (Tryd.prog.globals[0]?).map (·.type) = some 67 := by kernel_rfl
theorem cellsES : Tryd.prog.cellsOf 170 = 1 := by kernel_rfl
theorem cellsStr : Tryd.prog.cellsOf 9 = 1 := by kernel_rfl
theorem star : "*" ++ "errors.errorString" = "*errors.errorString" := by decide
theorem rowES (u : TypeId) (h : Tryd.prog.typeName? 3 u = some "*errors.errorString") : u = 145 :=
  typeName_ptr_named (nm := "errors.errorString") (by rw [star]; kernel_rfl) (by kernel_rfl) (by decide) u (by rw [star]; exact h)

/-- What the list gives: the variable holds a pointer to an error of errors.New's make. -/
theorem sent_of_met {W : World} (h : laidMet Tryd.prog [("loop.example/mortiser/impl.errNoFrac", Rows.laid_loop_example_mortiser_impl_errNoFrac)] W) :
    ∃ a, W.var? Tryd.prog "loop.example/mortiser/impl.errNoFrac" = some #[.iface 145 (.pointer (some a))] ∧ Sent a W := by
  obtain ⟨a, s, hv, _, _, _⟩ := laid_sentinel h gE gEType Tryd.underlying67 rowES Tryd.underlying145 Tryd.underlying170 rfl rfl Tryd.underlying9 cellsES cellsStr
  exact ⟨a, hv, by simpa [Sent] using World.var?_cell gE hv 0⟩
theorem sent_of_laid {W : World} (h : laidMetH Tryd.prog [("loop.example/mortiser/impl.errNoFrac", Rows.laid_loop_example_mortiser_impl_errNoFrac)] W) :
    ∃ a, W.var? Tryd.prog "loop.example/mortiser/impl.errNoFrac" = some #[.iface 145 (.pointer (some a))] ∧ Sent a W := by
  rw [MakeChecks.laidMetH_plain _ _ _ (by kernel_rfl)] at h
  exact sent_of_met h

/-- The variable read again as a token. -/
theorem vars_again {H : Type} (enc : TypeId × Value → H) {X : World} {a : Addr} (hv : X.var? Tryd.prog "loop.example/mortiser/impl.errNoFrac" = some #[.iface 145 (.pointer (some a))]) (sp : Nat → Bool) :
    DataW.TrodVars enc Tryd.prog X sp ["loop.example/mortiser/impl.errNoFrac"] [tok enc (.iface 145 (.pointer (some a)))] [.cell 0 0] :=
  vars_read1 enc gE gEType Tryd.underlying67 hv trivial sp

/-- The door's own heap meets the condition. -/
theorem door_met (os : Os) (args : Array Value) : laidMetH Tryd.prog [("loop.example/mortiser/impl.errNoFrac", Rows.laid_loop_example_mortiser_impl_errNoFrac)] ((World.doorLaid Tryd.prog 28 os).forCall (fun _ _ => 0) ⟨#[], args, []⟩).memory :=
  laidMetH_of_parts3 (fuel := 8) (laidMet_of_run' 8 (by kernel_rfl) (by kernel_rfl)) (by kernel_rfl) (by kernel_rfl)
end Go.Proofs.YtlikfcfblkckaaaDoor
namespace Go.Proofs.YtlikfcfblkckaaaDoor
open Go.ChangeShapes Go.WideShapes Go.ChangeAt Go.RowKit Go.Joins
open Go.ChangeMaps (open_string shut_string)

set_option maxRecDepth 100000 in
theorem fnExactPlateFar_lifted (os : Os) (started : os.Started) (H : Type) (enc : TypeId × Value → H) :
    ReturnsInHanded {} Tryd.checked os 4 .any (fun w args => (Rows.fnExactPlateFarSpec.pre enc Tryd.prog Tryd.f4 [] false w args ∧ laidMetH Tryd.prog Rows.fnExactPlateFarRow.laid w) ∧ sizedMet enc Tryd.prog Tryd.f4 (OpenSpec.ofChange Rows.fnExactPlateFarSpec) false w args)
      (Rows.fnExactPlateFarSpec.post enc Tryd.prog Tryd.f4 false true false false) := by
  refine returnsInHanded_of_change_and (C := Tryd.checked) (X := fun w _ => laidMetH Tryd.prog Rows.fnExactPlateFarRow.laid w) (fun _ _ _ hh h => h.of_heap hh) own started (by kernel_rfl) Tryd.func4
    (ChangeSpec.witness_shaped (enc := enc) (C := Tryd.checked) (os := os) (X := fun w _ => laidMetH Tryd.prog Rows.fnExactPlateFarRow.laid w) false (World.doorLaid Tryd.prog 28 os) #[.agg #[.slice none 0 0, .slice none 0 0], .agg #[.int .i64 0, .int .i64 0]] 8 rfl (World.shaped_of_RefB (by kernel_rfl) (by kernel_rfl)) (by kernel_rfl) (by kernel_rfl) (by kernel_rfl) (door_met os _)) ?_
  intro W base args ds gs before hval0 hW _ _ hL _
  have hval : ∀ (j : Nat) t v, Tryd.f4.params[j]? = some t → args[j]? = some v → Value.okWide Tryd.prog W .any base t v := hval0
  have hW' := hW
  obtain ⟨p, q, hA0, hV, rfl, hfz, hnd⟩ := hW
  have hA : DataW.TrodAll enc Tryd.prog W 0 (fun _ => true) true Tryd.f4.params.toList args.toList ds p := hA0
  rw [Tryd.params4] at hA hval
  obtain ⟨v0, vs0, d0, ds0, p0, q0, hargs, rfl, rfl, h0, r0⟩ := trodAll_cons hA
  obtain ⟨v1, vs1, d1, ds1, p1, q1, rfl, rfl, rfl, h1, r1⟩ := trodAll_cons r0
  obtain ⟨rfl, rfl, rfl⟩ := trodAll_nil r1
  obtain rfl : args = #[v0, v1] := by cases args; simp_all
  obtain ⟨a, hvar, hs⟩ := sent_of_laid hL
  obtain ⟨rfl, rfl⟩ := hV.unique (vars_again enc hvar _)
  have k0 := h0
  have lt0 : ∀ x ∈ p0, x.block < W.heap.size := by obtain ⟨m, hm⟩ := k0; exact DataW.trod_lt m _ _ _ hm
  obtain ⟨a0, la0, ca0, o0, ah0, nh0, ch0, hs0, rfl, w0, wh0⟩ := open_plate (hval 0 41 v0 rfl rfl) h0
  have k1 := h1
  have lt1 : ∀ x ∈ p1, x.block < W.heap.size := by obtain ⟨m, hm⟩ := k1; exact DataW.trod_lt m _ _ _ hm
  obtain ⟨x1, y1, rfl, wx1, wy1⟩ := open_pt (hval 1 42 v1 rfl rfl) h1
  clear hA0 hval0
  refine (exPlateFar_walk W a0 la0 ca0 o0 ah0 nh0 ch0 hs0 w0 wh0 x1 y1 wx1 wy1 a hs).mono fun e W' ⟨he, bel⟩ => ?_
  subst he
  exact ⟨_, rfl, _, _, _, [], _, [.cell 0 0], hW', trodAll_mk1 (shut_bool Tryd.underlying4 _), (trodAll_cons_mk (Below.trod laidOut (by kernel_rfl) (of_decide_eq_true (by kernel_rfl)) k0 bel lt0) (trodAll_cons_mk (Below.trod laidOut (by kernel_rfl) (of_decide_eq_true (by kernel_rfl)) k1 bel lt1) trodAll_mk0)), vars_again enc (var?_below bel gE hs.lt hvar) _, bel.frame _, fun h => by cases h⟩

theorem fnExactPlateFar_said : Rows.FnExactPlateFarSaid :=
  OpenClaim.holds_of_wide 4 Tryd.f4 rfl rfl rfl rfl rfl rfl rfl ⟨rfl, rfl, rfl, rfl, rfl⟩ rfl rfl rfl rfl rfl (by kernel_rfl) Tryd.func4 (by kernel_rfl)
    (of_decide_eq_true (by kernel_rfl)) (by unfold Func.isWrapper; first | (rw [if_pos (by decide +kernel)]; kernel_rfl) | (rw [if_neg (by decide +kernel)]; exact ⟨rfl, rfl⟩))
    (fun os started H enc _ => fnExactPlateFar_lifted os started H enc)

theorem fnExactPlateFar_plain (f : FuncId) (fn : Func) (hf : Tryd.pinned.checked.prog.funcNamed "loop.example/mortiser/laws.FnExactPlateFar" = some f) (hfn : Tryd.pinned.checked.prog.funcs[f]? = some fn) :
    true = Tryd.pinned.checked.prog.looks [] ∧ ∀ (j : Nat) t, fn.params[j]? = some t → Tryd.pinned.checked.prog.wantsStandIn t = false := by
  obtain rfl : f = 4 := Option.some.inj ((show Tryd.prog.funcNamed "loop.example/mortiser/laws.FnExactPlateFar" = some 4 by kernel_rfl).symm.trans hf) |>.symm
  obtain rfl : fn = Tryd.f4 := (Option.some.inj (Tryd.func4.symm.trans hfn)).symm
  refine ⟨by kernel_rfl, fun j t ht => ?_⟩
  rw [Tryd.params4] at ht
  have hm := Array.mem_of_getElem? ht
  simp only [List.mem_toArray, List.mem_cons, List.not_mem_nil, or_false] at hm
  rcases hm with rfl | rfl
  · exact (show Tryd.prog.wantsStandIn 41 = false by kernel_rfl)
  · exact (show Tryd.prog.wantsStandIn 42 = false by kernel_rfl)

/-- THE STATEMENT. -/
theorem fnExactPlateFar_card : Rows.FnExactPlateFarCardSaid :=
  Claim7.holds_tied_plain_at .later [] _ _ _ _ fnExactPlateFar_said (fun _ h => by cases h) (by kernel_rfl) (fun _ h => by cases h) fnExactPlateFar_row_tie rfl ⟨rfl, rfl⟩ (by kernel_rfl) rfl fnExactPlateFar_plain (by kernel_rfl)
end Go.Proofs.YtlikfcfblkckaaaDoor
