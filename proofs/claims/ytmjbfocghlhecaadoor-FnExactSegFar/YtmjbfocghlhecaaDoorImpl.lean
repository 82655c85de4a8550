/-
  OUR OWN TEXT. impl.FracOk, FracOf and FracCmp by contract, at every argument; the one condition: errNoFrac holds a pointer to an errors.errorString.
-/
import Derived.Test.YtmjbfocghlhecaaDoorRatio
namespace Go.Proofs.YtmjbfocghlhecaaDoor
open Go.RowKit

theorem fracOk_yes (n d : Int) (a : Addr) (w : World) (hs : Sent a w) (h : okB n d = true) :
    Calls Tryd.prog 30 #[.agg #[.int .i64 n, .int .i64 d]] w fun e w' => e = .returned (.bool true) ∧ Below w.heap.size w w' := by
  have b0 : Below w.heap.size w (w.alloc (.cells #[.int .i64 n, .int .i64 d] 34)) := bw_alloc (bw_refl _) _
  go_enter Tryd.func30, Tryd.ntmps30
  go_wp2_with (first
    | (go_at_call 62; refine (ratio_ok _ _ _ h).mono ?_; rintro e w' ⟨rfl, hb⟩; have hs1 := hs.below (bw_trans b0 hb); unfold Sent at hs1)
    | (go_at_call 63; refine (is_nil _ _).mono ?_; rintro e w' ⟨rfl, rfl⟩))
  go_ret
  exact ⟨rfl, bw_trans b0 hb⟩
theorem fracOk_no (n d : Int) (a : Addr) (w : World) (hs : Sent a w) (h : okB n d = false) :
    Calls Tryd.prog 30 #[.agg #[.int .i64 n, .int .i64 d]] w fun e w' => e = .returned (.bool false) ∧ Below w.heap.size w w' := by
  have b0 : Below w.heap.size w (w.alloc (.cells #[.int .i64 n, .int .i64 d] 34)) := bw_alloc (bw_refl _) _
  go_enter Tryd.func30, Tryd.ntmps30
  go_wp2_with (first
    | (go_at_call 62; refine (ratio_bad _ _ a _ ?_ h).mono ?_; exact hs.below b0; rintro e w' ⟨rfl, hb⟩; have hs1 := hs.below (bw_trans b0 hb); unfold Sent at hs1)
    | (go_at_call 63; refine (is_same _ _).mono ?_; rintro e w' ⟨rfl, rfl⟩))
  go_ret
  exact ⟨rfl, bw_trans b0 hb⟩
theorem fracOk_any (n d : Int) (a : Addr) (w : World) (hs : Sent a w) :
    Calls Tryd.prog 30 #[.agg #[.int .i64 n, .int .i64 d]] w fun e w' => e = .returned (.bool (okB n d)) ∧ Below w.heap.size w w' := by
  cases h : okB n d
  · exact fracOk_no n d a w hs h
  · exact fracOk_yes n d a w hs h

theorem fracOf_bad (n d : Int) (a : Addr) (w : World) (hs : Sent a w) (h : inB n d = false) :
    Calls Tryd.prog 31 #[.int .i64 n, .int .i64 d] w fun e w' => e = .returned (.tuple #[.agg #[.int .i64 0, .int .i64 0], .bool false]) ∧ Below w.heap.size w w' := by
  have b0 : Below w.heap.size w (w.alloc (.cells #[.int .i64 0, .int .i64 0] 34)) := bw_alloc (bw_refl _) _
  have hlt := hs.lt
  have hc := hs
  unfold Sent at hc
  go_enter Tryd.func31, Tryd.ntmps31
  go_wp2_with (first
    | (go_at_call 64; refine (divide_bad _ _ a _ ?_ h).mono ?_; exact hs.below b0; rintro e w' ⟨rfl, m, rfl⟩)
    | (go_at_call 63; refine (is_same _ _).mono ?_; rintro e w' ⟨rfl, rfl⟩))
  exact bodyPost_ret (v := .tuple #[.agg #[.int .i64 0, .int .i64 0], .bool false]) (by simp [results, Tryd.results31, go_sem]) rfl ⟨rfl, by repeat (first | exact bw_refl _ | apply bw_drewN | apply bw_drew | apply bw_alloc | refine bw_set ?_ (by simp) _)⟩

theorem fracOf_ok (n d : Int) (a : Addr) (w : World) (hs : Sent a w) (h : inB n d = true) :
    Calls Tryd.prog 31 #[.int .i64 n, .int .i64 d] w fun e w' => e = .returned (.tuple #[.agg #[.int .i64 (n / G n d), .int .i64 (d / G n d)], .bool true]) ∧ Below w.heap.size w w' := by
  have mB := meth_below
  have mA := meth_above
  have b0 : Below w.heap.size w (w.alloc (.cells #[.int .i64 0, .int .i64 0] 34)) := bw_alloc (bw_refl _) _
  have hlt := hs.lt
  have hc := hs
  unfold Sent at hc
  go_enter Tryd.func31, Tryd.ntmps31
  go_wp2_with (first
    | (go_at_call 64; refine (divide_ok _ _ _ h).mono ?_; rintro e w' ⟨rfl, m, rfl⟩)
    | (go_at_call 63; refine (is_nil _ _).mono ?_; rintro e w' ⟨rfl, rfl⟩)
    | (go_at_call 98; refine (above_any _ _ _).mono ?_; rintro e w' ⟨rfl, rfl⟩)
    | (go_at_call 99; refine (below_any _ _ _).mono ?_; rintro e w' ⟨rfl, rfl⟩))
  exact bodyPost_ret (v := .tuple #[.agg #[.int .i64 (n / G n d), .int .i64 (d / G n d)], .bool true]) (by simp [results, Tryd.results31, go_sem]) rfl ⟨rfl, by repeat (first | exact bw_refl _ | apply bw_drewN | apply bw_drew | apply bw_alloc | refine bw_set ?_ (by simp) _)⟩

theorem mul_bd (x y : Int) (h1 : 0 ≤ x) (h2 : x ≤ 99999) (h3 : 0 ≤ y) (h4 : y ≤ 99999) : 0 ≤ x * y ∧ x * y ≤ 9999800001 := by
  refine ⟨Int.mul_nonneg h1 h3, ?_⟩
  have := Int.mul_le_mul h2 h4 h3 (by omega)
  omega

theorem cross_any (n d m b : Int) (w : World) (h1 : 0 ≤ n) (h2 : n ≤ 99999) (h3 : 0 ≤ b) (h4 : b ≤ 99999) :
    Calls Tryd.prog 66 #[.iface 96 (.agg #[.int .i64 n, .int .i64 d]), .iface 96 (.agg #[.int .i64 m, .int .i64 b])] w fun e w' => e = .returned (.int .i64 (n * b)) ∧ Below w.heap.size w w' := by
  have mB := meth_below
  have mA := meth_above
  obtain ⟨k1, k2⟩ := mul_bd n b h1 h2 h3 h4
  go_enter Tryd.func66, Tryd.ntmps66
  go_wp2_with (first
    | (go_at_call 98; refine (above_any _ _ _).mono ?_; rintro e w' ⟨rfl, rfl⟩)
    | (go_at_call 99; refine (below_any _ _ _).mono ?_; rintro e w' ⟨rfl, rfl⟩))
  go_ret
  exact ⟨rfl, by repeat (first | exact bw_refl _ | apply bw_drewN | apply bw_drew | apply bw_alloc | refine bw_set ?_ (by simp) _)⟩

theorem compare_any (x y : Int) (w : World) :
    Calls Tryd.prog 65 #[.int .i64 x, .int .i64 y] w fun e w' => e = .returned (.int .i64 (cmpI x y)) ∧ Below w.heap.size w w' := by
  have hc : x < y ∨ (¬ x < y ∧ y < x) ∨ (¬ x < y ∧ ¬ y < x) := by omega
  rcases hc with h1 | ⟨h1, h2⟩ | ⟨h1, h2⟩
  · have e : Hid (cmpI x y = -1) := by unfold cmpI; rw [if_pos h1]; rfl
    go_enter Tryd.func65, Tryd.ntmps65
    go_wp2
    go_ret
    exact ⟨ret_int e.out.symm, bw_refl _⟩
  · have e : Hid (cmpI x y = 1) := by unfold cmpI; rw [if_neg h1, if_pos h2]; rfl
    go_enter Tryd.func65, Tryd.ntmps65
    go_wp2
    go_ret
    exact ⟨ret_int e.out.symm, bw_refl _⟩
  · have e : Hid (cmpI x y = 0) := by unfold cmpI; rw [if_neg h1, if_neg h2]; rfl
    go_enter Tryd.func65, Tryd.ntmps65
    go_wp2
    go_ret
    exact ⟨ret_int e.out.symm, bw_refl _⟩

/-- What FracCmp answers. -/
def cmpV (n d m b : Int) : Int := if okB n d && okB m b then cmpI (n * b) (m * d) else 2

theorem fracCmp_left (n d m b : Int) (a : Addr) (w : World) (hs : Sent a w) (h : okB n d = false) :
    Calls Tryd.prog 32 #[.agg #[.int .i64 n, .int .i64 d], .agg #[.int .i64 m, .int .i64 b]] w fun e w' => e = .returned (.int .i64 2) ∧ Below w.heap.size w w' := by
  have b0 : Below w.heap.size w ((w.alloc (.cells #[.int .i64 n, .int .i64 d] 34)).alloc (.cells #[.int .i64 m, .int .i64 b] 34)) := bw_alloc (bw_alloc (bw_refl _) _) _
  go_enter Tryd.func32, Tryd.ntmps32
  go_wp2_with (first
    | (go_at_call 62; refine (ratio_bad _ _ a _ ?_ h).mono ?_; exact hs.below b0; rintro e w' ⟨rfl, hb⟩; have hs1 := hs.below (bw_trans b0 hb); unfold Sent at hs1)
    | (go_at_call 63; refine (is_same _ _).mono ?_; rintro e w' ⟨rfl, rfl⟩))
  go_ret
  exact ⟨rfl, bw_trans b0 hb⟩
end Go.Proofs.YtmjbfocghlhecaaDoor
