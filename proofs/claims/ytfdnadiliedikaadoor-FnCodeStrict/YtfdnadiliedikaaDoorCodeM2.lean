/-
  OUR OWN TEXT. What lies between turns is a path; what turns there is among the turns; the other side, and the other way about.
-/
import Derived.Test.YtfdnadiliedikaaDoorCodeM
namespace Go.Proofs.YtfdnadiliedikaaDoor

theorem dP_add (a d : P2) : dP a (a.1 + d.1, a.2 + d.2) = d := by
  have h1 : a.1 + d.1 - a.1 = d.1 := by omega
  have h2 : a.2 + d.2 - a.2 = d.2 := by omega
  unfold dP
  simp only [h1, h2]
theorem chB_line {a d : P2} (hd : unitP d) (n : Nat) (r : List P2) : chB a (lineL a d n ++ r) = chB (addP a d n) r := by
  induction n generalizing a with
  | zero => rw [addP_zero]; rfl
  | succ n ih =>
    show (besP a (a.1 + d.1, a.2 + d.2) && chB (a.1 + d.1, a.2 + d.2) (lineL (a.1 + d.1, a.2 + d.2) d n ++ r)) = _
    rw [ih, addP_succ, besP_iff.2 (by rw [dP_add]; exact hd)]
    rfl
theorem inlP_unit {a b : P2} (h : inlP a b = true) : unitP (wayP a b) ∧ 1 ≤ distP a b ∧ addP a (wayP a b) (distP a b) = b := by
  obtain ⟨ax, ay⟩ := a
  obtain ⟨bx, b_y⟩ := b
  simp only [inlP, Bool.and_eq_true, decide_eq_true_eq, ne_eq, Prod.mk.injEq] at h
  obtain ⟨hne, hx | hy⟩ := h
  · subst hx
    have e0 : ax - ax = 0 := by omega
    unfold wayP distP addP
    rcases Int.lt_trichotomy (b_y - ay) 0 with h | h | h
    · simp only [sg1_neg h, e0, sg1_zero]
      exact ⟨.inr (.inr (.inr rfl)), by omega, by simp only [Prod.mk.injEq]; omega⟩
    · exact absurd ⟨rfl, by omega⟩ hne
    · simp only [sg1_pos h, e0, sg1_zero]
      exact ⟨.inr (.inr (.inl rfl)), by omega, by simp only [Prod.mk.injEq]; omega⟩
  · subst hy
    have e0 : ay - ay = 0 := by omega
    unfold wayP distP addP
    rcases Int.lt_trichotomy (bx - ax) 0 with h | h | h
    · simp only [sg1_neg h, e0, sg1_zero]
      exact ⟨.inr (.inl rfl), by omega, by simp only [Prod.mk.injEq]; omega⟩
    · exact absurd ⟨by omega, rfl⟩ hne
    · simp only [sg1_pos h, e0, sg1_zero]
      exact ⟨.inl rfl, by omega, by simp only [Prod.mk.injEq]; omega⟩
theorem stayG_ch {a : P2} {r : List P2} (h : inG a r = true) : chB a (stayG a r) = true := by
  induction r generalizing a with
  | nil => rfl
  | cons b r ih =>
    unfold inG at h
    rw [Bool.and_eq_true] at h
    obtain ⟨h1, _, h2⟩ := inlP_unit h.1
    unfold stayG legL
    rw [chB_line h1, h2]
    exact ih h.2
theorem lineL_ok {a d : P2} (hd : unitP d) : ∀ {n : Nat}, okP a = true → okP (addP a d n) = true → ∀ p ∈ lineL a d n, okP p = true := by
  intro n ha hb p hp
  have key : ∀ n (a : P2), p ∈ lineL a d n → ∃ k, k ≤ n ∧ p = addP a d k := by
    intro n
    induction n with
    | zero => intro a h; cases h
    | succ n ih =>
      intro a h
      unfold lineL at h
      rcases List.mem_cons.1 h with rfl | h
      · exact ⟨1, by omega, by simp [addP]⟩
      · obtain ⟨k, hk, rfl⟩ := ih _ h
        exact ⟨k + 1, by omega, addP_succ a d k⟩
  obtain ⟨k, hk, rfl⟩ := key n a hp
  unfold okP at *
  rw [ptB_iff] at *
  unfold addP at *
  rcases hd with rfl | rfl | rfl | rfl <;> simp only [] at * <;> omega
theorem stayG_ok {a : P2} {r : List P2} (h : inG a r = true) (ha : okP a = true) (hr : ∀ p ∈ r, okP p = true) : ∀ p ∈ stayG a r, okP p = true := by
  induction r generalizing a with
  | nil => intro p hp; cases hp
  | cons b r ih =>
    unfold inG at h
    rw [Bool.and_eq_true] at h
    obtain ⟨h1, _, h2⟩ := inlP_unit h.1
    have hb : okP b = true := hr b (List.mem_cons_self)
    intro p hp
    unfold stayG at hp
    rcases List.mem_append.1 hp with hp | hp
    · exact lineL_ok h1 ha (by rw [h2]; exact hb) p hp
    · exact ih h.2 hb (fun q hq => hr q (List.mem_cons_of_mem _ hq)) p hp
theorem stay_path {t : List P2} (h : stayV t = true) : pathP (stayL t) = true := by
  obtain ⟨hl, ho, hi, h4⟩ := stayV_parts h
  match t, hl, ho, hi, h4 with
  | a :: r, hl, ho, hi, h4 =>
    refine pathP_of ⟨by show 1 ≤ (a :: stayG a r).length; simp, h4⟩ ?_ (stayG_ch hi)
    intro p hp
    rcases List.mem_cons.1 hp with rfl | hp
    · exact ho _ List.mem_cons_self
    · exact stayG_ok hi (ho _ List.mem_cons_self) (fun q hq => ho q (List.mem_cons_of_mem _ hq)) p hp
/-- Turns behind a straight line. -/
theorem goT_line {a d : P2} (r : List P2) (n : Nat) : ∀ (s : P2), dP s a = d → goT s a (lineL a d n ++ r) = goT (addP s d n) (addP a d n) r := by
  induction n generalizing a with
  | zero => intro s _; rw [addP_zero, addP_zero]; rfl
  | succ n ih =>
    intro s hs
    show goT s a ((a.1 + d.1, a.2 + d.2) :: (lineL (a.1 + d.1, a.2 + d.2) d n ++ r)) = _
    have hda : dP a (a.1 + d.1, a.2 + d.2) = d := dP_add _ _
    have step : goT s a ((a.1 + d.1, a.2 + d.2) :: (lineL (a.1 + d.1, a.2 + d.2) d n ++ r)) = goT a (a.1 + d.1, a.2 + d.2) (lineL (a.1 + d.1, a.2 + d.2) d n ++ r) := by
      show (if dP s a = dP a (a.1 + d.1, a.2 + d.2) then _ else _) = _
      rw [if_pos (by rw [hs, hda])]
    rw [step, ih a hda, addP_succ]
    congr 1
    rw [← addP_succ s d n, ← dP_line hs]
theorem goT_stay {s a : P2} {r : List P2} (h : inG a r = true) : (∀ p ∈ goT s a (stayG a r), p ∈ a :: r) ∧ (goT s a (stayG a r)).length ≤ r.length + 1 := by
  induction r generalizing s a with
  | nil => exact ⟨fun p hp => hp, Nat.le_refl _⟩
  | cons b r ih =>
    unfold inG at h
    rw [Bool.and_eq_true] at h
    obtain ⟨h1, hm, h2⟩ := inlP_unit h.1
    obtain ⟨m, hm'⟩ : ∃ m, distP a b = m + 1 := ⟨distP a b - 1, by omega⟩
    have e : stayG a (b :: r) = (a.1 + (wayP a b).1, a.2 + (wayP a b).2) :: (lineL (a.1 + (wayP a b).1, a.2 + (wayP a b).2) (wayP a b) m ++ stayG b r) := by
      show legL a b ++ stayG b r = _
      unfold legL
      rw [hm']
      rfl
    have hda : dP a (a.1 + (wayP a b).1, a.2 + (wayP a b).2) = wayP a b := dP_add _ _
    have e2 : goT a (a.1 + (wayP a b).1, a.2 + (wayP a b).2) (lineL (a.1 + (wayP a b).1, a.2 + (wayP a b).2) (wayP a b) m ++ stayG b r) = goT (addP a (wayP a b) m) b (stayG b r) := by
      rw [goT_line _ m a hda, addP_succ, ← hm', h2]
    obtain ⟨i1, i2⟩ := ih (s := addP a (wayP a b) m) h.2
    rw [e]
    unfold goT
    rw [e2]
    by_cases c : dP s a = dP a (a.1 + (wayP a b).1, a.2 + (wayP a b).2)
    · rw [if_pos c]
      exact ⟨fun p hp => List.mem_cons_of_mem _ (i1 p hp), by simp only [List.length_cons]; omega⟩
    · rw [if_neg c]
      refine ⟨fun p hp => ?_, by simp only [List.length_cons]; omega⟩
      rcases List.mem_cons.1 hp with rfl | hp
      · exact List.mem_cons_self
      · exact List.mem_cons_of_mem _ (i1 p hp)
theorem turns_stay {t : List P2} (h : stayV t = true) : (∀ p ∈ turnsL (stayL t), p ∈ t) ∧ (turnsL (stayL t)).length ≤ t.length := by
  obtain ⟨hl, ho, hi, h4⟩ := stayV_parts h
  rw [turnsL_R]
  match t, hl, hi with
  | [a], _, _ => exact ⟨fun p hp => hp, Nat.le_refl _⟩
  | a :: b :: r, _, hi =>
    have hi' : (inlP a b && inG b r) = true := hi
    rw [Bool.and_eq_true] at hi'
    obtain ⟨h1, hm, h2⟩ := inlP_unit hi'.1
    obtain ⟨m, hm'⟩ : ∃ m, distP a b = m + 1 := ⟨distP a b - 1, by omega⟩
    have hda : dP a (a.1 + (wayP a b).1, a.2 + (wayP a b).2) = wayP a b := dP_add _ _
    have e2 : goT a (a.1 + (wayP a b).1, a.2 + (wayP a b).2) (lineL (a.1 + (wayP a b).1, a.2 + (wayP a b).2) (wayP a b) m ++ stayG b r) = goT (addP a (wayP a b) m) b (stayG b r) := by
      rw [goT_line _ m a hda, addP_succ, ← hm', h2]
    have e : turnsR (stayL (a :: b :: r)) = a :: goT (addP a (wayP a b) m) b (stayG b r) := by
      show turnsR (a :: (legL a b ++ stayG b r)) = _
      unfold legL
      rw [hm']
      show a :: goT a (a.1 + (wayP a b).1, a.2 + (wayP a b).2) (lineL (a.1 + (wayP a b).1, a.2 + (wayP a b).2) (wayP a b) m ++ stayG b r) = _
      rw [e2]
    obtain ⟨i1, i2⟩ := goT_stay (s := addP a (wayP a b) m) hi'.2
    rw [e]
    refine ⟨fun p hp => ?_, by simp only [List.length_cons]; omega⟩
    rcases List.mem_cons.1 hp with rfl | hp
    · exact List.mem_cons_self
    · exact List.mem_cons_of_mem _ (i1 p hp)
/-- A turn is in the way of the two points ahead of it. -/
theorem goT_head {a b : P2} {r : List P2} (hc : chB b r = true) : ∃ n q, goT a b r = addP b (dP a b) n :: q := by
  induction r generalizing a b with
  | nil => exact ⟨0, [], by rw [addP_zero]; rfl⟩
  | cons c r ih =>
    have hc' : (besP b c && chB c r) = true := hc
    rw [Bool.and_eq_true] at hc'
    unfold goT
    by_cases h : dP a b = dP b c
    · rw [if_pos h]
      obtain ⟨n, q, e⟩ := ih (a := b) hc'.2
      refine ⟨n + 1, q, ?_⟩
      rw [e, ← h, ← addP_succ]
      congr 2
      rw [h]
      exact dP_line rfl
    · rw [if_neg h]
      exact ⟨0, _, by rw [addP_zero]⟩
def crP (a b c : P2) : Int := (b.1 - a.1) * (c.2 - a.2) - (b.2 - a.2) * (c.1 - a.1)
def doP (a b c : P2) : Int := (b.1 - a.1) * (c.1 - b.1) + (b.2 - a.2) * (c.2 - b.2)
theorem turn_algebra {s d f : P2} (K M : Nat) (hd : unitP d) (hf : unitP f) (h1 : crP s (addP s d K) (addP (addP s d K) f M) = 0) (h2 : 0 < doP s (addP s d K) (addP (addP s d K) f M)) : d = f := by
  have e1 : crP s (addP s d K) (addP (addP s d K) f M) = (K : Int) * M * (d.1 * f.2 - d.2 * f.1) := by unfold crP addP; grind
  have e2 : doP s (addP s d K) (addP (addP s d K) f M) = (K : Int) * M * (d.1 * f.1 + d.2 * f.2) := by unfold doP addP; grind
  rw [e1] at h1
  rw [e2] at h2
  have hq : 0 ≤ (K : Int) * M := Int.mul_nonneg (Int.natCast_nonneg _) (Int.natCast_nonneg _)
  generalize (K : Int) * M = q at h1 h2 hq
  rcases hd with rfl | rfl | rfl | rfl <;> rcases hf with rfl | rfl | rfl | rfl <;> first | rfl | (exfalso; simp only [] at h1 h2; omega)
theorem goT_tri {s d a b : P2} {r : List P2} {k : Nat} (hd : unitP d) (ha : a = addP s d k) (hb : dP a b = d) (hc : chB b r = true) :
    ∀ i x y z, (s :: goT a b r)[i]? = some x → (s :: goT a b r)[i + 1]? = some y → (s :: goT a b r)[i + 2]? = some z → ¬ (crP x y z = 0 ∧ 0 < doP x y z) := by
  have hbk : b = addP s d (k + 1) := by rw [dP_line hb, ha, addP_one]
  induction r generalizing s d a b k with
  | nil => intro i x y z _ _ hz; exfalso; simp [goT] at hz
  | cons c r ih =>
    have hc' : (besP b c && chB c r) = true := hc
    rw [Bool.and_eq_true] at hc'
    have hu := besP_unit hc'.1
    unfold goT
    by_cases h : dP a b = dP b c
    · rw [if_pos h]
      have hbc' : dP b c = d := by rw [← h, hb]
      exact ih hd hbk hbc' hc'.2 (by rw [dP_line hbc', hbk, addP_one])
    · rw [if_neg h]
      intro i x y z hx hy hz
      cases i with
      | succ i =>
        exact ih (s := b) (d := dP b c) (a := b) (b := c) (k := 0) hu (addP_zero _ _).symm rfl hc'.2 (by rw [← addP_one, addP_zero]; exact dP_line rfl) i x y z (by simpa using hx) (by simpa using hy) (by simpa using hz)
      | zero =>
        obtain ⟨n, q, e⟩ := goT_head (a := b) hc'.2
        rw [e] at hz
        simp at hx hy hz
        subst hx hy hz
        intro hcd
        apply h
        rw [hb]
        have hcb : addP c (dP b c) n = addP b (dP b c) (n + 1) := by
          have e0 := dP_line (a := b) (b := c) rfl
          generalize dP b c = f at e0 ⊢
          rw [e0]
          exact addP_succ _ _ _
        rw [hcb, hbk] at hcd
        rw [← hbk] at hcd
        exact turn_algebra (s := s) (k + 1) (n + 1) hd hu (by rw [← hbk]; exact hcd.1) (by rw [← hbk]; exact hcd.2)
theorem turns_tri {l : List P2} (hc : chL l = true) : ∀ i x y z, (turnsL l)[i]? = some x → (turnsL l)[i + 1]? = some y → (turnsL l)[i + 2]? = some z → ¬ (crP x y z = 0 ∧ 0 < doP x y z) := by
  rw [turnsL_R]
  match l, hc with
  | [], _ => intro i x y z hx _ _; simp [turnsR] at hx
  | [a], _ => intro i x y z _ _ hz; exfalso; simp [turnsR] at hz
  | a :: b :: r, hc =>
    have hc' : (besP a b && chB b r) = true := hc
    rw [Bool.and_eq_true] at hc'
    exact goT_tri (s := a) (k := 0) (besP_unit hc'.1) (addP_zero _ _).symm rfl hc'.2
end Go.Proofs.YtfdnadiliedikaaDoor
