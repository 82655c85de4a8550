/-
  OUR OWN TEXT. impl.ratioOf by contract, for every fraction; the one condition: errNoFrac holds a pointer to an errors.errorString.
-/
import Derived.Test.YtmjbfocghlhecaaDoorDivide
namespace Go.Proofs.YtmjbfocghlhecaaDoor
open Go.RowKit

theorem meth_below (v : Value) (w : World) : (Go.method 246 96 v "loop.example/mortiser/impl.below").run Tryd.prog w = .ok (99, v) w := by kernel_rfl
theorem meth_above (v : Value) (w : World) : (Go.method 246 96 v "loop.example/mortiser/impl.above").run Tryd.prog w = .ok (98, v) w := by kernel_rfl

theorem below_any (n d : Int) (w : World) :
    Calls Tryd.prog 99 #[.agg #[.int .i64 n, .int .i64 d]] w fun e w' => e = .returned (.int .i64 d) ∧ w' = w.alloc (.cells #[.int .i64 n, .int .i64 d] 96) := by
  go_enter Tryd.func99, Tryd.ntmps99
  go_wp2
  go_ret
  exact ⟨rfl, rfl⟩
theorem above_any (n d : Int) (w : World) :
    Calls Tryd.prog 98 #[.agg #[.int .i64 n, .int .i64 d]] w fun e w' => e = .returned (.int .i64 n) ∧ w' = w.alloc (.cells #[.int .i64 n, .int .i64 d] 96) := by
  go_enter Tryd.func98, Tryd.ntmps98
  go_wp2
  go_ret
  exact ⟨rfl, rfl⟩

theorem ratio_out (n d : Int) (w : World) (a : Addr) (hs : Sent a w) (h : inB n d = false) :
    Calls Tryd.prog 62 #[.agg #[.int .i64 n, .int .i64 d]] w fun e w' => e = .returned (.tuple #[.nilIface, .iface 109 (.pointer (some a))]) ∧ Below w.heap.size w w' := by
  go_enter Tryd.func62, Tryd.ntmps62
  go_wp2_with (go_at_call 64; refine (divide_bad _ _ a _ ?_ h).mono ?_; exact hs.below ((Below.refl _ _).alloc (Nat.le_refl _) _); rintro e w' ⟨rfl, m, rfl⟩)
  go_ret2
  exact ⟨rfl, bw_drewN (bw_alloc (bw_refl _) _) _⟩

theorem ratio_yes (n d : Int) (w : World) (h : inB n d = true) (hg : G n d = 1) :
    Calls Tryd.prog 62 #[.agg #[.int .i64 n, .int .i64 d]] w fun e w' => e = .returned (.tuple #[.iface 96 (.agg #[.int .i64 n, .int .i64 d]), .nilIface]) ∧ Below w.heap.size w w' := by
  have mB := meth_below
  have HG : Hid (G n d = 1) := hg
  have e1 : Hid (n / G n d = n) := by rw [hg]; exact Int.ediv_one n
  have e2 : Hid (d / G n d = d) := by rw [hg]; exact Int.ediv_one d
  have hne : (d != d) = false := by simp
  clear hg
  go_enter Tryd.func62, Tryd.ntmps62
  go_wp2_with (go_at_call 64; refine (divide_ok _ _ _ h).mono ?_; rintro e w' ⟨rfl, m, rfl⟩; rw [e1.out, e2.out])
  go_region_with (go_at_call 99; refine (below_any _ _ _).mono ?_; rintro e w' ⟨rfl, rfl⟩)
  all_goals go_wp2
  all_goals go_ret2
  all_goals exact ⟨rfl, by repeat (first | exact bw_refl _ | apply bw_drewN | apply bw_drew | apply bw_alloc)⟩

theorem ratio_no (n d : Int) (a : Addr) (w : World) (hs : Sent a w) (h : inB n d = true) (hg : G n d ≠ 1) :
    Calls Tryd.prog 62 #[.agg #[.int .i64 n, .int .i64 d]] w fun e w' => e = .returned (.tuple #[.nilIface, .iface 109 (.pointer (some a))]) ∧ Below w.heap.size w w' := by
  have mB := meth_below
  have hlt := hs.lt
  have h' := (inB_iff n d).1 h
  have hgp := G_pos n d h'.2.2.1
  have hne : (d / G n d != d) = true := by
    have := mt (div_self_iff d (G n d) h'.2.2.1 hgp).1 hg
    simpa using this
  unfold Sent at hs
  clear hg h' hgp
  go_enter Tryd.func62, Tryd.ntmps62
  go_wp2_with (go_at_call 64; refine (divide_ok _ _ _ h).mono ?_; rintro e w' ⟨rfl, m, rfl⟩)
  go_region_with (go_at_call 99; refine (below_any _ _ _).mono ?_; rintro e w' ⟨rfl, rfl⟩)
  all_goals go_wp2
  all_goals go_quiet (fail)
  all_goals go_wp2
  all_goals go_ret2
  all_goals exact ⟨rfl, by repeat (first | exact bw_refl _ | apply bw_drewN | apply bw_drew | apply bw_alloc)⟩

/-- An ok fraction comes back as it is. -/
theorem ratio_ok (n d : Int) (w : World) (h : okB n d = true) :
    Calls Tryd.prog 62 #[.agg #[.int .i64 n, .int .i64 d]] w fun e w' => e = .returned (.tuple #[.iface 96 (.agg #[.int .i64 n, .int .i64 d]), .nilIface]) ∧ Below w.heap.size w w' := by
  rw [okB_iff] at h
  exact ratio_yes n d w ((inB_iff n d).2 ⟨h.1, h.2.1, h.2.2.1, h.2.2.2.1⟩) h.2.2.2.2
/-- Of any other one there is the error. -/
theorem ratio_bad (n d : Int) (a : Addr) (w : World) (hs : Sent a w) (h : okB n d = false) :
    Calls Tryd.prog 62 #[.agg #[.int .i64 n, .int .i64 d]] w fun e w' => e = .returned (.tuple #[.nilIface, .iface 109 (.pointer (some a))]) ∧ Below w.heap.size w w' := by
  cases hi : inB n d
  · exact ratio_out n d w a hs hi
  · refine ratio_no n d a w hs hi fun hg => ?_
    rw [inB_iff] at hi
    rw [okB_not] at h
    exact h ⟨hi.1, hi.2.1, hi.2.2.1, hi.2.2.2, hg⟩
end Go.Proofs.YtmjbfocghlhecaaDoor
