/-
  OUR OWN TEXT. Points and segments that are ok, in the program and in the specification, by contract, at every argument.
-/
import Derived.Test.YthjnfjnnpabenaaGreatDoorGeo
import Derived.Test.YthjnfjnnpabenaaGreatDoorBw
import Derived.WalkKit
import Derived.Deep.QuietTactic
import Derived.BigQuiet
namespace Go.Proofs.YthjnfjnnpabenaaGreatDoor
open Go.RowKit

theorem place_any (n : Int) (w : World) :
    Calls Tryz.prog 90 #[.int .i64 n] w fun e w' => e = .returned (.bool (plB n)) ∧ w' = w := by
  have hc : n < 0 ∨ (0 ≤ n ∧ n ≤ 9) ∨ (0 ≤ n ∧ 9 < n) := by omega
  rcases hc with h | ⟨h, h2⟩ | ⟨h, h2⟩
  · have e : Hid (plB n = false) := (plB_not n).2 (.inl h)
    go_enter Tryz.func90, Tryz.ntmps90
    go_wp2
    go_ret
    exact ⟨ret_bool e.out.symm, rfl⟩
  · have e : Hid (plB n = true) := (plB_iff n).2 ⟨h, h2⟩
    go_enter Tryz.func90, Tryz.ntmps90
    go_wp2
    go_ret
    exact ⟨ret_bool e.out.symm, rfl⟩
  · have e : Hid (plB n = false) := (plB_not n).2 (.inr h2)
    go_enter Tryz.func90, Tryz.ntmps90
    go_wp2
    go_ret
    exact ⟨ret_bool (by rw [e.out]; simp; omega), rfl⟩

theorem ptOk_any (x y : Int) (w : World) :
    Calls Tryz.prog 77 #[.agg #[.int .i64 x, .int .i64 y]] w fun e w' => e = .returned (.bool (ptB x y)) ∧ Below w.heap.size w w' := by
  unfold ptB
  cases h : plB x
  · go_enter Tryz.func77, Tryz.ntmps77
    go_wp2_with fail
    refine (place_any _ _).mono ?_
    rw [h]
    rintro e w' ⟨rfl, rfl⟩
    go_wp2_with fail
    go_ret
    exact ⟨rfl, (by repeat (first | exact bw_refl _ | assumption | apply bw_drewN | apply bw_drew | apply bw_alloc | refine bw_set ?_ (by simp) _))⟩
  · go_enter Tryz.func77, Tryz.ntmps77
    go_wp2_with fail
    refine (place_any _ _).mono ?_
    rw [h]
    rintro e w' ⟨rfl, rfl⟩
    go_wp2_with fail
    refine (place_any _ _).mono ?_
    rintro e w' ⟨rfl, rfl⟩
    go_wp2_with fail
    go_ret
    exact ⟨rfl, (by repeat (first | exact bw_refl _ | assumption | apply bw_drewN | apply bw_drew | apply bw_alloc | refine bw_set ?_ (by simp) _))⟩

theorem segOk_any (ax ay bx b_y : Int) (w : World) :
    Calls Tryz.prog 58 #[.agg #[.int .i64 ax, .int .i64 ay, .int .i64 bx, .int .i64 b_y]] w fun e w' => e = .returned (.bool (sgB ax ay bx b_y)) ∧ Below w.heap.size w w' := by
  unfold sgB
  cases ha : ptB ax ay
  · go_enter Tryz.func58, Tryz.ntmps58
    go_wp2_with fail
    refine (ptOk_any _ _ _).mono ?_
    rw [ha]
    rintro e w1 ⟨rfl, b1⟩
    go_wp2_with fail
    go_ret
    exact ⟨rfl, bw_trans (by repeat (first | exact bw_refl _ | assumption | apply bw_drewN | apply bw_drew | apply bw_alloc | refine bw_set ?_ (by simp) _)) b1⟩
  · cases hb : ptB bx b_y
    · go_enter Tryz.func58, Tryz.ntmps58
      go_wp2_with fail
      refine (ptOk_any _ _ _).mono ?_
      rw [ha]
      rintro e w1 ⟨rfl, b1⟩
      obtain ⟨hc, _⟩ := bcell b1
      go_wp2_with fail
      refine (ptOk_any _ _ _).mono ?_
      rw [hb]
      rintro e w2 ⟨rfl, b2⟩
      go_wp2_with fail
      go_ret
      exact ⟨rfl, bw_trans (bw_trans (by repeat (first | exact bw_refl _ | assumption | apply bw_drewN | apply bw_drew | apply bw_alloc | refine bw_set ?_ (by simp) _)) b1) b2⟩
    · by_cases hx : ax = bx
      · by_cases hy : ay = b_y
        · subst hx hy
          go_enter Tryz.func58, Tryz.ntmps58
          go_wp2_with fail
          refine (ptOk_any _ _ _).mono ?_
          rw [ha]
          rintro e w1 ⟨rfl, b1⟩
          obtain ⟨hc, _⟩ := bcell b1
          go_wp2_with fail
          refine (ptOk_any _ _ _).mono ?_
          rw [hb]
          rintro e w2 ⟨rfl, b2⟩
          clear hc
          obtain ⟨hc, _⟩ := bcell (bw_trans b1 b2)
          go_wp2_with fail
          go_ret
          exact ⟨ret_bool (by simp), bw_trans (bw_trans (by repeat (first | exact bw_refl _ | assumption | apply bw_drewN | apply bw_drew | apply bw_alloc | refine bw_set ?_ (by simp) _)) b1) b2⟩
        · subst hx
          have hy' : (ay == b_y) = false := by simpa using hy
          have e2 : Hid (decide (ay = b_y) = false) := decide_eq_false hy
          clear hy
          go_enter Tryz.func58, Tryz.ntmps58
          go_wp2_with fail
          refine (ptOk_any _ _ _).mono ?_
          rw [ha]
          rintro e w1 ⟨rfl, b1⟩
          obtain ⟨hc, _⟩ := bcell b1
          go_wp2_with fail
          refine (ptOk_any _ _ _).mono ?_
          rw [hb]
          rintro e w2 ⟨rfl, b2⟩
          clear hc
          obtain ⟨hc, _⟩ := bcell (bw_trans b1 b2)
          go_wp2_with fail
          go_ret
          exact ⟨ret_bool (by rw [e2.out]; simp), bw_trans (bw_trans (by repeat (first | exact bw_refl _ | assumption | apply bw_drewN | apply bw_drew | apply bw_alloc | refine bw_set ?_ (by simp) _)) b1) b2⟩
      · have hx' : (ax == bx) = false := by simpa using hx
        have e2 : Hid (decide (ax = bx) = false) := decide_eq_false hx
        clear hx
        go_enter Tryz.func58, Tryz.ntmps58
        go_wp2_with fail
        refine (ptOk_any _ _ _).mono ?_
        rw [ha]
        rintro e w1 ⟨rfl, b1⟩
        obtain ⟨hc, _⟩ := bcell b1
        go_wp2_with fail
        refine (ptOk_any _ _ _).mono ?_
        rw [hb]
        rintro e w2 ⟨rfl, b2⟩
        clear hc
        obtain ⟨hc, _⟩ := bcell (bw_trans b1 b2)
        go_wp2_with fail
        go_ret
        exact ⟨ret_bool (by rw [e2.out]; simp), bw_trans (bw_trans (by repeat (first | exact bw_refl _ | assumption | apply bw_drewN | apply bw_drew | apply bw_alloc | refine bw_set ?_ (by simp) _)) b1) b2⟩
end Go.Proofs.YthjnfjnnpabenaaGreatDoor
