/-
  OUR OWN TEXT. Where one is on the way between two points that are in line.
-/
import Derived.Test.YtfdnadiliedikaaDoorCodeM3
namespace Go.Proofs.YtfdnadiliedikaaDoor

theorem addP_add (a d : P2) (j n : Nat) : addP (addP a d j) d n = addP a d (j + n) := by
  simp only [addP, Prod.mk.injEq]
  constructor <;> (push_cast; grind)
/-- Where one is on the way between two points. -/
theorem leg_at {a b : P2} (h : inlP a b = true) {j : Nat} (hj : j < distP a b) : wayP (addP a (wayP a b) j) b = wayP a b ∧ addP a (wayP a b) j ≠ b := by
  obtain ⟨hu, h1, h2⟩ := inlP_unit h
  obtain ⟨m, hm⟩ : ∃ m, distP a b = j + (m + 1) := ⟨distP a b - j - 1, by omega⟩
  have e : addP (addP a (wayP a b) j) (wayP a b) (m + 1) = b := by rw [addP_add, ← hm, h2]
  obtain ⟨w1, w2, w3⟩ := wayP_unit (a := addP a (wayP a b) j) hu m
  rw [e] at w1 w3
  refine ⟨w1, ?_⟩
  simp only [inlP, Bool.and_eq_true, decide_eq_true_eq] at w3
  exact w3.1
theorem leg_end {a b : P2} (h : inlP a b = true) : addP a (wayP a b) (distP a b) = b := (inlP_unit h).2.2
theorem leg_bd {a b : P2} (h : inlP a b = true) (ha : okP a = true) (hb : okP b = true) {j : Nat} (hj : j ≤ distP a b) : okP (addP a (wayP a b) j) = true := by
  obtain ⟨hu, h1, h2⟩ := inlP_unit h
  have hb' : okP (addP a (wayP a b) (distP a b)) = true := by rw [h2]; exact hb
  rcases Nat.eq_zero_or_pos j with h0 | h0
  · subst h0; rw [addP_zero]; exact ha
  · unfold okP at *
    rw [ptB_iff] at *
    generalize wayP a b = d at *
    unfold addP at *
    rcases hu with rfl | rfl | rfl | rfl <;> simp only [] at * <;> omega
theorem sg1_cmp (x : Int) : cmpI x 0 = sg1 x := by
  rcases Int.lt_trichotomy x 0 with h | h | h
  · rw [sg1_neg h]; unfold cmpI; rw [if_pos h]
  · subst h; rfl
  · rw [sg1_pos h]; unfold cmpI; rw [if_neg (by omega), if_pos h]
end Go.Proofs.YtfdnadiliedikaaDoor
