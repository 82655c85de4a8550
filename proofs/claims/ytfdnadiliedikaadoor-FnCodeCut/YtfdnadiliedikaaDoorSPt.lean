/-
  OUR OWN TEXT. The specification's points and segments that are ok, by contract, at every argument.
-/
import Derived.Test.YtfdnadiliedikaaDoorPt
namespace Go.Proofs.YtfdnadiliedikaaDoor
open Go.RowKit

/-- Between two numbers, or one of them. -/
def inR (n lo hi : Int) : Bool := decide (lo ≤ n ∧ n ≤ hi)
theorem inR_iff (n lo hi : Int) : inR n lo hi = true ↔ lo ≤ n ∧ n ≤ hi := by simp [inR]
theorem inR_not (n lo hi : Int) : inR n lo hi = false ↔ n < lo ∨ hi < n := by simp [inR]; omega
theorem plB_in (n : Int) : plB n = inR n 0 9 := rfl
theorem in_any (n lo hi : Int) (w : World) :
    Calls Tryd.prog 47 #[.int .i64 n, .int .i64 lo, .int .i64 hi] w fun e w' => e = .returned (.bool (inR n lo hi)) ∧ w' = w := by
  have hc : n < lo ∨ (lo ≤ n ∧ hi < n) ∨ (lo ≤ n ∧ n ≤ hi) := by omega
  rcases hc with h | ⟨h, h2⟩ | ⟨h, h2⟩
  · have e : Hid (inR n lo hi = false) := (inR_not _ _ _).2 (by omega)
    go_enter Tryd.func47, Tryd.ntmps47
    go_wp2
    go_ret
    exact ⟨ret_bool e.out.symm, rfl⟩
  · have e : Hid (inR n lo hi = false) := (inR_not _ _ _).2 (by omega)
    go_enter Tryd.func47, Tryd.ntmps47
    go_wp2
    go_ret
    exact ⟨ret_bool (by rw [e.out]; simp; omega), rfl⟩
  · have e : Hid (inR n lo hi = true) := (inR_iff _ _ _).2 ⟨h, h2⟩
    go_enter Tryd.func47, Tryd.ntmps47
    go_wp2
    go_ret
    exact ⟨ret_bool e.out.symm, rfl⟩

theorem sPt_any (x y : Int) (w : World) :
    Calls Tryd.prog 54 #[.agg #[.int .i64 x, .int .i64 y]] w fun e w' => e = .returned (.bool (ptB x y)) ∧ Below w.heap.size w w' := by
  unfold ptB
  rw [plB_in, plB_in]
  cases h : inR x 0 9
  · go_enter Tryd.func54, Tryd.ntmps54
    go_wp2_with fail
    refine (in_any _ 0 9 _).mono ?_
    rw [h]
    rintro e w' ⟨rfl, rfl⟩
    go_wp2_with fail
    go_ret
    exact ⟨rfl, (by repeat (first | exact bw_refl _ | assumption | apply bw_drewN | apply bw_drew | apply bw_alloc | refine bw_set ?_ (by simp) _))⟩
  · go_enter Tryd.func54, Tryd.ntmps54
    go_wp2_with fail
    refine (in_any _ 0 9 _).mono ?_
    rw [h]
    rintro e w' ⟨rfl, rfl⟩
    go_wp2_with fail
    refine (in_any _ 0 9 _).mono ?_
    rintro e w' ⟨rfl, rfl⟩
    go_wp2_with fail
    go_ret
    exact ⟨rfl, (by repeat (first | exact bw_refl _ | assumption | apply bw_drewN | apply bw_drew | apply bw_alloc | refine bw_set ?_ (by simp) _))⟩

end Go.Proofs.YtfdnadiliedikaaDoor
