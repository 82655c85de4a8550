/-
  OUR OWN TEXT. The specification's points and segments that are ok, by contract, at every argument.
-/
import Derived.Test.YthjnfjnnpabenaaGreatDoorPt
namespace Go.Proofs.YthjnfjnnpabenaaGreatDoor
open Go.RowKit

/-- Between two numbers, or one of them. -/
def inR (n lo hi : Int) : Bool := decide (lo ≤ n ∧ n ≤ hi)
theorem inR_iff (n lo hi : Int) : inR n lo hi = true ↔ lo ≤ n ∧ n ≤ hi := by simp [inR]
theorem inR_not (n lo hi : Int) : inR n lo hi = false ↔ n < lo ∨ hi < n := by simp [inR]; omega
theorem plB_in (n : Int) : plB n = inR n 0 9 := rfl
theorem in_any (n lo hi : Int) (w : World) :
    Calls Tryz.prog 40 #[.int .i64 n, .int .i64 lo, .int .i64 hi] w fun e w' => e = .returned (.bool (inR n lo hi)) ∧ w' = w := by
  have hc : n < lo ∨ (lo ≤ n ∧ hi < n) ∨ (lo ≤ n ∧ n ≤ hi) := by omega
  rcases hc with h | ⟨h, h2⟩ | ⟨h, h2⟩
  · have e : Hid (inR n lo hi = false) := (inR_not _ _ _).2 (by omega)
    go_enter Tryz.func40, Tryz.ntmps40
    go_wp2
    go_ret
    exact ⟨ret_bool e.out.symm, rfl⟩
  · have e : Hid (inR n lo hi = false) := (inR_not _ _ _).2 (by omega)
    go_enter Tryz.func40, Tryz.ntmps40
    go_wp2
    go_ret
    exact ⟨ret_bool (by rw [e.out]; simp; omega), rfl⟩
  · have e : Hid (inR n lo hi = true) := (inR_iff _ _ _).2 ⟨h, h2⟩
    go_enter Tryz.func40, Tryz.ntmps40
    go_wp2
    go_ret
    exact ⟨ret_bool e.out.symm, rfl⟩

theorem sPt_any (x y : Int) (w : World) :
    Calls Tryz.prog 80 #[.agg #[.int .i64 x, .int .i64 y]] w fun e w' => e = .returned (.bool (ptB x y)) ∧ Below w.heap.size w w' := by
  unfold ptB
  rw [plB_in, plB_in]
  cases h : inR x 0 9
  · go_enter Tryz.func80, Tryz.ntmps80
    go_wp2_with fail
    refine (in_any _ 0 9 _).mono ?_
    rw [h]
    rintro e w' ⟨rfl, rfl⟩
    go_wp2_with fail
    go_ret
    exact ⟨rfl, (by repeat (first | exact bw_refl _ | assumption | apply bw_drewN | apply bw_drew | apply bw_alloc | refine bw_set ?_ (by simp) _))⟩
  · go_enter Tryz.func80, Tryz.ntmps80
    go_wp2_with fail
    refine (in_any _ 0 9 _).mono ?_
    rw [h]
    rintro e w' ⟨rfl, rfl⟩
    go_wp2_with fail
    refine (in_any _ 0 9 _).mono ?_
    rintro e w' ⟨rfl, rfl⟩
    go_wp2_with fail
    go_ret
    exact ⟨rfl, (by repeat (first | exact bw_refl _ | assumption | apply bw_drewN | apply bw_drew | apply bw_alloc | refine bw_set ?_ (by simp) _))⟩

theorem sSeg_any (ax ay bx b_y : Int) (w : World) :
    Calls Tryz.prog 61 #[.agg #[.int .i64 ax, .int .i64 ay, .int .i64 bx, .int .i64 b_y]] w fun e w' => e = .returned (.bool (sgB ax ay bx b_y)) ∧ Below w.heap.size w w' := by
  unfold sgB
  cases ha : ptB ax ay
  · go_enter Tryz.func61, Tryz.ntmps61
    go_wp2_with fail
    refine (sPt_any _ _ _).mono ?_
    rw [ha]
    rintro e w1 ⟨rfl, b1⟩
    go_wp2_with fail
    go_ret
    exact ⟨rfl, bw_trans (by repeat (first | exact bw_refl _ | assumption | apply bw_drewN | apply bw_drew | apply bw_alloc | refine bw_set ?_ (by simp) _)) b1⟩
  · cases hb : ptB bx b_y
    · go_enter Tryz.func61, Tryz.ntmps61
      go_wp2_with fail
      refine (sPt_any _ _ _).mono ?_
      rw [ha]
      rintro e w1 ⟨rfl, b1⟩
      obtain ⟨hc, _⟩ := bcell b1
      go_wp2_with fail
      refine (sPt_any _ _ _).mono ?_
      rw [hb]
      rintro e w2 ⟨rfl, b2⟩
      go_wp2_with fail
      go_ret
      exact ⟨rfl, bw_trans (bw_trans (by repeat (first | exact bw_refl _ | assumption | apply bw_drewN | apply bw_drew | apply bw_alloc | refine bw_set ?_ (by simp) _)) b1) b2⟩
    · by_cases hx : ax = bx
      · by_cases hy : ay = b_y
        · subst hx hy
          go_enter Tryz.func61, Tryz.ntmps61
          go_wp2_with fail
          refine (sPt_any _ _ _).mono ?_
          rw [ha]
          rintro e w1 ⟨rfl, b1⟩
          obtain ⟨hc, _⟩ := bcell b1
          go_wp2_with fail
          refine (sPt_any _ _ _).mono ?_
          rw [hb]
          rintro e w2 ⟨rfl, b2⟩
          clear hc
          obtain ⟨hc, _⟩ := bcell (bw_trans b1 b2)
          go_wp2_with fail
          go_ret
          exact ⟨ret_bool (by simp), bw_trans (bw_trans (by repeat (first | exact bw_refl _ | assumption | apply bw_drewN | apply bw_drew | apply bw_alloc | refine bw_set ?_ (by simp) _)) b1) b2⟩
        · subst hx
          have hy' : (ay == b_y) = false := by simpa using hy
          have e2 : Hid (decide (ay = b_y) = false) := decide_eq_false hy
          clear hy
          go_enter Tryz.func61, Tryz.ntmps61
          go_wp2_with fail
          refine (sPt_any _ _ _).mono ?_
          rw [ha]
          rintro e w1 ⟨rfl, b1⟩
          obtain ⟨hc, _⟩ := bcell b1
          go_wp2_with fail
          refine (sPt_any _ _ _).mono ?_
          rw [hb]
          rintro e w2 ⟨rfl, b2⟩
          clear hc
          obtain ⟨hc, _⟩ := bcell (bw_trans b1 b2)
          go_wp2_with fail
          go_ret
          exact ⟨ret_bool (by rw [e2.out]; simp), bw_trans (bw_trans (by repeat (first | exact bw_refl _ | assumption | apply bw_drewN | apply bw_drew | apply bw_alloc | refine bw_set ?_ (by simp) _)) b1) b2⟩
      · have hx' : (ax == bx) = false := by simpa using hx
        have e2 : Hid (decide (ax = bx) = false) := decide_eq_false hx
        clear hx
        go_enter Tryz.func61, Tryz.ntmps61
        go_wp2_with fail
        refine (sPt_any _ _ _).mono ?_
        rw [ha]
        rintro e w1 ⟨rfl, b1⟩
        obtain ⟨hc, _⟩ := bcell b1
        go_wp2_with fail
        refine (sPt_any _ _ _).mono ?_
        rw [hb]
        rintro e w2 ⟨rfl, b2⟩
        clear hc
        obtain ⟨hc, _⟩ := bcell (bw_trans b1 b2)
        go_wp2_with fail
        go_ret
        exact ⟨ret_bool (by rw [e2.out]; simp), bw_trans (bw_trans (by repeat (first | exact bw_refl _ | assumption | apply bw_drewN | apply bw_drew | apply bw_alloc | refine bw_set ?_ (by simp) _)) b1) b2⟩
end Go.Proofs.YthjnfjnnpabenaaGreatDoor
