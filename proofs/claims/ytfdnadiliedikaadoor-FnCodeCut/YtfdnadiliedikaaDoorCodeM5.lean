/-
  OUR OWN TEXT. Where a path between turns begins and ends, and that it comes by all of them.
-/
import Derived.Test.YtfdnadiliedikaaDoorCodeM4
namespace Go.Proofs.YtfdnadiliedikaaDoor

theorem ptAt_append (x y : List P2) (j : Nat) : ptAt (x ++ y) (x.length + j) = ptAt y j := by
  unfold ptAt
  rw [List.getElem?_append_right (by omega), Nat.add_sub_cancel_left]
theorem leg_split {a b : P2} (h : inlP a b = true) : ∃ m, distP a b = m + 1 ∧ legL a b = lineL a (wayP a b) m ++ [b] := by
  obtain ⟨hu, h1, h2⟩ := inlP_unit h
  obtain ⟨m, hm⟩ : ∃ m, distP a b = m + 1 := ⟨distP a b - 1, by omega⟩
  refine ⟨m, hm, ?_⟩
  unfold legL
  rw [hm, lineL_snoc, ← hm, h2]
theorem stayG_last {a : P2} {r : List P2} (h : inG a r = true) : ptAt (a :: stayG a r) (stayG a r).length = ptAt (a :: r) r.length := by
  induction r generalizing a with
  | nil => rfl
  | cons b r ih =>
    unfold inG at h
    rw [Bool.and_eq_true] at h
    obtain ⟨m, hm, hl⟩ := leg_split h.1
    have e : a :: stayG a (b :: r) = (a :: lineL a (wayP a b) m) ++ (b :: stayG b r) := by
      show a :: (legL a b ++ stayG b r) = _
      rw [hl]
      simp
    have e2 : (stayG a (b :: r)).length = (a :: lineL a (wayP a b) m).length + (stayG b r).length := by
      have := congrArg List.length e
      simp only [List.length_cons, List.length_append] at this ⊢
      omega
    rw [e, e2, ptAt_append, ih h.2, List.length_cons, ptAt_succ]
theorem stayG_mem {a : P2} {r : List P2} (h : inG a r = true) : ∀ p ∈ a :: r, p ∈ a :: stayG a r := by
  induction r generalizing a with
  | nil => exact fun p hp => hp
  | cons b r ih =>
    unfold inG at h
    rw [Bool.and_eq_true] at h
    obtain ⟨m, hm, hl⟩ := leg_split h.1
    have e : a :: stayG a (b :: r) = (a :: lineL a (wayP a b) m) ++ (b :: stayG b r) := by
      show a :: (legL a b ++ stayG b r) = _
      rw [hl]
      simp
    intro p hp
    rw [e]
    rcases List.mem_cons.1 hp with rfl | hp
    · exact List.mem_append_left _ List.mem_cons_self
    · exact List.mem_append_right _ (ih h.2 p hp)
theorem stay_facts {t : List P2} (h1 : 1 ≤ t.length) (h : inL t = true) : ptAt (stayL t) 0 = ptAt t 0 ∧ ptAt (stayL t) ((stayL t).length - 1) = ptAt t (t.length - 1) ∧ ∀ p ∈ t, p ∈ stayL t := by
  match t, h1, h with
  | a :: r, _, h =>
    refine ⟨rfl, ?_, stayG_mem h⟩
    show ptAt (a :: stayG a r) ((a :: stayG a r).length - 1) = ptAt (a :: r) ((a :: r).length - 1)
    exact stayG_last h
theorem inlP_xor (a b : P2) : inlP a b = ((decide (b.1 - a.1 = 0)) != (decide (b.2 - a.2 = 0))) := by
  obtain ⟨ax, ay⟩ := a
  obtain ⟨bx, b_y⟩ := b
  rw [Bool.eq_iff_iff]
  simp only [inlP, Bool.and_eq_true, decide_eq_true_eq, ne_eq, Prod.mk.injEq, bne_iff_ne, decide_eq_decide]
  omega
theorem stay_can {t : List P2} (h1 : 1 ≤ t.length) (h2 : t.length ≤ 40) : stayV t = (t.all okP && inL t) := by
  rw [Bool.eq_iff_iff, stayV_iff, Bool.and_eq_true, List.all_eq_true, all_at, inL_iff]
  constructor
  · exact fun h => ⟨h.2.1, h.2.2.1⟩
  · intro h
    have := stay_len_le h.1 h.2
    exact ⟨by omega, h.1, h.2, by omega⟩
end Go.Proofs.YtfdnadiliedikaaDoor
