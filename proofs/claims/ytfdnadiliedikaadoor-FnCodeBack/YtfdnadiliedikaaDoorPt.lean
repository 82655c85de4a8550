/-
  OUR OWN TEXT. Points and segments that are ok, in the program and in the specification, by contract, at every argument.
-/
import Derived.Test.YtfdnadiliedikaaDoorGeo
import Derived.Test.YtfdnadiliedikaaDoorBw
import Derived.WalkKit
import Derived.Deep.QuietTactic
import Derived.BigQuiet
namespace Go.Proofs.YtfdnadiliedikaaDoor
open Go.RowKit

theorem place_any (n : Int) (w : World) :
    Calls Tryd.prog 68 #[.int .i64 n] w fun e w' => e = .returned (.bool (plB n)) ∧ w' = w := by
  have hc : n < 0 ∨ (0 ≤ n ∧ n ≤ 9) ∨ (0 ≤ n ∧ 9 < n) := by omega
  rcases hc with h | ⟨h, h2⟩ | ⟨h, h2⟩
  · have e : Hid (plB n = false) := (plB_not n).2 (.inl h)
    go_enter Tryd.func68, Tryd.ntmps68
    go_wp2
    go_ret
    exact ⟨ret_bool e.out.symm, rfl⟩
  · have e : Hid (plB n = true) := (plB_iff n).2 ⟨h, h2⟩
    go_enter Tryd.func68, Tryd.ntmps68
    go_wp2
    go_ret
    exact ⟨ret_bool e.out.symm, rfl⟩
  · have e : Hid (plB n = false) := (plB_not n).2 (.inr h2)
    go_enter Tryd.func68, Tryd.ntmps68
    go_wp2
    go_ret
    exact ⟨ret_bool (by rw [e.out]; simp; omega), rfl⟩

theorem ptOk_any (x y : Int) (w : World) :
    Calls Tryd.prog 42 #[.agg #[.int .i64 x, .int .i64 y]] w fun e w' => e = .returned (.bool (ptB x y)) ∧ Below w.heap.size w w' := by
  unfold ptB
  cases h : plB x
  · go_enter Tryd.func42, Tryd.ntmps42
    go_wp2_with fail
    refine (place_any _ _).mono ?_
    rw [h]
    rintro e w' ⟨rfl, rfl⟩
    go_wp2_with fail
    go_ret
    exact ⟨rfl, (by repeat (first | exact bw_refl _ | assumption | apply bw_drewN | apply bw_drew | apply bw_alloc | refine bw_set ?_ (by simp) _))⟩
  · go_enter Tryd.func42, Tryd.ntmps42
    go_wp2_with fail
    refine (place_any _ _).mono ?_
    rw [h]
    rintro e w' ⟨rfl, rfl⟩
    go_wp2_with fail
    refine (place_any _ _).mono ?_
    rintro e w' ⟨rfl, rfl⟩
    go_wp2_with fail
    go_ret
    exact ⟨rfl, (by repeat (first | exact bw_refl _ | assumption | apply bw_drewN | apply bw_drew | apply bw_alloc | refine bw_set ?_ (by simp) _))⟩

end Go.Proofs.YtfdnadiliedikaaDoor
