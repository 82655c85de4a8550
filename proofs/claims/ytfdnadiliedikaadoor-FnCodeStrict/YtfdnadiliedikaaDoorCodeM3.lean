/-
  OUR OWN TEXT. Paths by their places; paths on the other side, exchanged, and the other way about; how long a path between turns is.
-/
import Derived.Test.YtfdnadiliedikaaDoorCodeM2
namespace Go.Proofs.YtfdnadiliedikaaDoor

theorem ptAt_succ (a : P2) (r : List P2) (i : Nat) : ptAt (a :: r) (i + 1) = ptAt r i := by simp [ptAt]
theorem ptAt_zero (a : P2) (r : List P2) : ptAt (a :: r) 0 = a := by simp [ptAt]
theorem chB_iff (a : P2) (r : List P2) : chB a r = true ↔ ∀ i, i < r.length → besP (ptAt (a :: r) i) (ptAt (a :: r) (i + 1)) = true := by
  induction r generalizing a with
  | nil => exact ⟨fun _ i hi => absurd hi (Nat.not_lt_zero _), fun _ => rfl⟩
  | cons b r ih =>
    unfold chB
    rw [Bool.and_eq_true, ih]
    constructor
    · rintro ⟨h1, h2⟩ i hi
      cases i with
      | zero => simpa [ptAt] using h1
      | succ i => rw [ptAt_succ, ptAt_succ]; exact h2 i (by simpa using hi)
    · intro h
      refine ⟨by simpa [ptAt] using h 0 (by simp), fun i hi => ?_⟩
      have := h (i + 1) (by simpa using hi)
      rwa [ptAt_succ, ptAt_succ] at this
theorem chL_iff (l : List P2) : chL l = true ↔ ∀ i, i + 1 < l.length → besP (ptAt l i) (ptAt l (i + 1)) = true := by
  match l with
  | [] => exact ⟨fun _ i hi => by simp at hi, fun _ => rfl⟩
  | a :: r => rw [show chL (a :: r) = chB a r from rfl, chB_iff]; simp
theorem inG_iff (a : P2) (r : List P2) : inG a r = true ↔ ∀ i, i < r.length → inlP (ptAt (a :: r) i) (ptAt (a :: r) (i + 1)) = true := by
  induction r generalizing a with
  | nil => exact ⟨fun _ i hi => absurd hi (Nat.not_lt_zero _), fun _ => rfl⟩
  | cons b r ih =>
    unfold inG
    rw [Bool.and_eq_true, ih]
    constructor
    · rintro ⟨h1, h2⟩ i hi
      cases i with
      | zero => simpa [ptAt] using h1
      | succ i => rw [ptAt_succ, ptAt_succ]; exact h2 i (by simpa using hi)
    · intro h
      refine ⟨by simpa [ptAt] using h 0 (by simp), fun i hi => ?_⟩
      have := h (i + 1) (by simpa using hi)
      rwa [ptAt_succ, ptAt_succ] at this
theorem inL_iff (l : List P2) : inL l = true ↔ ∀ i, i + 1 < l.length → inlP (ptAt l i) (ptAt l (i + 1)) = true := by
  match l with
  | [] => exact ⟨fun _ i hi => by simp at hi, fun _ => rfl⟩
  | a :: r => rw [show inL (a :: r) = inG a r from rfl, inG_iff]; simp
theorem all_at {l : List P2} : (∀ p ∈ l, okP p = true) ↔ ∀ i, i < l.length → okP (ptAt l i) = true := by
  constructor
  · intro h i hi
    rw [ptAt_lt hi]
    exact h _ (List.getElem_mem _)
  · intro h p hp
    obtain ⟨i, hi, rfl⟩ := List.getElem_of_mem hp
    have := h i hi
    rwa [ptAt_lt hi] at this
theorem pathP_iff {l : List P2} : pathP l = true ↔ (1 ≤ l.length ∧ l.length ≤ 400) ∧ (∀ i, i < l.length → okP (ptAt l i) = true) ∧ ∀ i, i + 1 < l.length → besP (ptAt l i) (ptAt l (i + 1)) = true := by
  constructor
  · intro h
    obtain ⟨h1, h2, h3⟩ := pathP_parts h
    exact ⟨h1, all_at.1 h2, (chL_iff l).1 h3⟩
  · rintro ⟨h1, h2, h3⟩
    exact pathP_of h1 (all_at.2 h2) ((chL_iff l).2 h3)
theorem pathP_len {l : List P2} (h : ¬ (1 ≤ l.length ∧ l.length ≤ 400)) : pathP l = false := by rw [Bool.eq_false_iff]; exact fun h' => h (pathP_iff.1 h').1
theorem pathP_pt {l : List P2} {i : Nat} (hi : i < l.length) (h : okP (ptAt l i) = false) : pathP l = false := by rw [Bool.eq_false_iff]; intro h'; rw [(pathP_iff.1 h').2.1 i hi] at h; cases h
theorem pathP_step {l : List P2} {i : Nat} (hi : i + 1 < l.length) (h : besP (ptAt l i) (ptAt l (i + 1)) = false) : pathP l = false := by rw [Bool.eq_false_iff]; intro h'; rw [(pathP_iff.1 h').2.2 i hi] at h; cases h
theorem stayV_iff {t : List P2} : stayV t = true ↔ (1 ≤ t.length ∧ t.length ≤ 400) ∧ (∀ i, i < t.length → okP (ptAt t i) = true) ∧ (∀ i, i + 1 < t.length → inlP (ptAt t i) (ptAt t (i + 1)) = true) ∧ (stayL t).length ≤ 400 := by
  constructor
  · intro h
    obtain ⟨h1, h2, h3, h4⟩ := stayV_parts h
    exact ⟨h1, all_at.1 h2, (inL_iff t).1 h3, h4⟩
  · rintro ⟨h1, h2, h3, h4⟩
    exact stayV_of h1 (all_at.2 h2) ((inL_iff t).2 h3) h4
theorem stayV_len {l : List P2} (h : ¬ (1 ≤ l.length ∧ l.length ≤ 400)) : stayV l = false := by rw [Bool.eq_false_iff]; exact fun h' => h (stayV_iff.1 h').1
theorem stayV_pt {l : List P2} {i : Nat} (hi : i < l.length) (h : okP (ptAt l i) = false) : stayV l = false := by rw [Bool.eq_false_iff]; intro h'; rw [(stayV_iff.1 h').2.1 i hi] at h; cases h
theorem stayV_inl {l : List P2} {i : Nat} (hi : i + 1 < l.length) (h : inlP (ptAt l i) (ptAt l (i + 1)) = false) : stayV l = false := by rw [Bool.eq_false_iff]; intro h'; rw [(stayV_iff.1 h').2.2.1 i hi] at h; cases h
theorem stayV_long {l : List P2} (h : 400 < (stayL l).length) : stayV l = false := by rw [Bool.eq_false_iff]; intro h'; have := (stayV_iff.1 h').2.2.2; omega
theorem stayG_snoc (a : P2) (r : List P2) (b : P2) : stayG a (r ++ [b]) = stayG a r ++ legL (ptAt (a :: r) r.length) b := by
  induction r generalizing a with
  | nil => simp [stayG, ptAt]
  | cons c r ih =>
    show legL a c ++ stayG c (r ++ [b]) = legL a c ++ stayG c r ++ _
    rw [ih, List.append_assoc, List.length_cons, ptAt_succ]
theorem stayL_snoc {t : List P2} (h : 1 ≤ t.length) (b : P2) : stayL (t ++ [b]) = stayL t ++ legL (ptAt t (t.length - 1)) b := by
  match t, h with
  | a :: r, _ =>
    show a :: stayG a (r ++ [b]) = a :: (stayG a r ++ _)
    rw [stayG_snoc]
    rfl
theorem take_snoc {t : List P2} {k : Nat} (hk : k < t.length) : t.take (k + 1) = t.take k ++ [ptAt t k] := by
  rw [List.take_add_one, ptAt_lt hk]
  simp [hk]
theorem stay_take {t : List P2} {k : Nat} (hk : k + 1 < t.length) : stayL (t.take (k + 2)) = stayL (t.take (k + 1)) ++ legL (ptAt t k) (ptAt t (k + 1)) := by
  have e : ptAt (t.take (k + 1)) ((t.take (k + 1)).length - 1) = ptAt t k := by
    rw [List.length_take, Nat.min_eq_left (by omega), Nat.add_sub_cancel]
    simp [ptAt]
  rw [take_snoc (k := k + 1) hk, stayL_snoc (by rw [List.length_take]; omega), e]
theorem stay_take1 {t : List P2} (h : 0 < t.length) : stayL (t.take 1) = [ptAt t 0] := by
  match t, h with
  | a :: r, _ => simp [stayL, stayG, ptAt]
theorem stay_mono {t : List P2} {k : Nat} (h : 1 ≤ k) : ∀ n, k + n ≤ t.length → (stayL (t.take k)).length ≤ (stayL (t.take (k + n))).length := by
  intro n
  induction n with
  | zero => intro _; exact Nat.le_refl _
  | succ n ih =>
    intro hn
    obtain ⟨m, rfl⟩ : ∃ m, k = m + 1 := ⟨k - 1, by omega⟩
    have e := stay_take (t := t) (k := m + n) (by omega)
    rw [show m + n + 2 = m + 1 + (n + 1) by omega, show m + n + 1 = m + 1 + n by omega] at e
    rw [e, List.length_append]
    have := ih (by omega)
    omega
theorem distP_ok {a b : P2} (ha : okP a = true) (hb : okP b = true) (h : inlP a b = true) : distP a b ≤ 9 := by
  unfold okP at *
  rw [ptB_iff] at *
  simp only [inlP, Bool.and_eq_true, decide_eq_true_eq] at h
  unfold distP
  omega
theorem legL_len (a b : P2) : (legL a b).length = distP a b := lineL_len _ _ _
theorem stay_len_take {t : List P2} (ho : ∀ i, i < t.length → okP (ptAt t i) = true) : ∀ k, k < t.length → (∀ i, i < k → inlP (ptAt t i) (ptAt t (i + 1)) = true) → (stayL (t.take (k + 1))).length ≤ 9 * k + 1 := by
  intro k
  induction k with
  | zero => intro hk _; rw [stay_take1 hk]; simp
  | succ k ih =>
    intro hk hin
    rw [stay_take hk, List.length_append, legL_len]
    have := ih (by omega) (fun i hi => hin i (by omega))
    have := distP_ok (ho k (by omega)) (ho (k + 1) hk) (hin k (by omega))
    omega
theorem stay_len_le {t : List P2} (ho : ∀ i, i < t.length → okP (ptAt t i) = true) (hin : ∀ i, i + 1 < t.length → inlP (ptAt t i) (ptAt t (i + 1)) = true) : (stayL t).length ≤ 9 * t.length + 1 := by
  rcases Nat.eq_zero_or_pos t.length with h | h
  · rw [List.eq_nil_of_length_eq_zero h]; simp [stayL]
  · have := stay_len_take ho (t.length - 1) (by omega) (fun i hi => hin i (by omega))
    rw [Nat.sub_add_cancel h, List.take_length] at this
    omega
theorem goT_map {f : P2 → P2} (hf : ∀ a b c, dP (f a) (f b) = dP (f b) (f c) ↔ dP a b = dP b c) (a b : P2) (r : List P2) : goT (f a) (f b) (r.map f) = (goT a b r).map f := by
  induction r generalizing a b with
  | nil => rfl
  | cons c r ih =>
    rw [List.map_cons]
    unfold goT
    by_cases h : dP a b = dP b c
    · rw [if_pos h, if_pos ((hf a b c).2 h), ih]
    · rw [if_neg h, if_neg (fun h' => h ((hf a b c).1 h')), ih]; rfl
theorem turns_map {f : P2 → P2} (hf : ∀ a b c, dP (f a) (f b) = dP (f b) (f c) ↔ dP a b = dP b c) (l : List P2) : turnsL (l.map f) = (turnsL l).map f := by
  rw [turnsL_R, turnsL_R]
  match l with
  | [] => rfl
  | [a] => rfl
  | a :: b :: r => show f a :: goT (f a) (f b) (r.map f) = f a :: (goT a b r).map f; rw [goT_map hf]
theorem dP_mir (a b c : P2) : dP (mirP a) (mirP b) = dP (mirP b) (mirP c) ↔ dP a b = dP b c := by
  unfold dP mirP
  simp only [Prod.mk.injEq]
  omega
theorem dP_swp (a b c : P2) : dP (swpP a) (swpP b) = dP (swpP b) (swpP c) ↔ dP a b = dP b c := by
  unfold dP swpP
  simp only [Prod.mk.injEq]
  omega
theorem besP_mir (a b : P2) : besP (mirP a) (mirP b) = besP a b := by
  rw [Bool.eq_iff_iff, besP_iff, besP_iff]
  unfold unitP dP mirP
  simp only [Prod.mk.injEq]
  omega
theorem besP_swp (a b : P2) : besP (swpP a) (swpP b) = besP a b := by
  rw [Bool.eq_iff_iff, besP_iff, besP_iff]
  unfold unitP dP swpP
  simp only [Prod.mk.injEq]
  omega
theorem besP_back (a b : P2) : besP b a = besP a b := by
  rw [Bool.eq_iff_iff, besP_iff, besP_iff]
  unfold unitP dP
  simp only [Prod.mk.injEq]
  omega
theorem okP_mir (a : P2) : okP (mirP a) = okP a := by
  unfold okP
  rw [Bool.eq_iff_iff, ptB_iff, ptB_iff]
  unfold mirP
  simp only
  omega
theorem okP_swp (a : P2) : okP (swpP a) = okP a := by
  unfold okP
  rw [Bool.eq_iff_iff, ptB_iff, ptB_iff]
  unfold swpP
  simp only
  omega
theorem path_map {f : P2 → P2} (h1 : ∀ a, okP (f a) = okP a) (h2 : ∀ a b, besP (f a) (f b) = besP a b) {l : List P2} (h : pathP l = true) : pathP (l.map f) = true := by
  obtain ⟨a, b, c⟩ := pathP_iff.1 h
  refine pathP_iff.2 ⟨by rw [List.length_map]; exact a, fun i hi => ?_, fun i hi => ?_⟩
  · rw [List.length_map] at hi
    rw [map_at hi, h1]; exact b i hi
  · rw [List.length_map] at hi
    rw [map_at (by omega), map_at hi, h2]; exact c i hi
theorem path_rev {l : List P2} (h : pathP l = true) : pathP l.reverse = true := by
  obtain ⟨a, b, c⟩ := pathP_iff.1 h
  refine pathP_iff.2 ⟨by rw [List.length_reverse]; exact a, fun i hi => ?_, fun i hi => ?_⟩
  · rw [List.length_reverse] at hi
    rw [rev_at hi]; exact b _ (by omega)
  · rw [List.length_reverse] at hi
    rw [rev_at (by omega), rev_at hi, ← besP_back]
    have := c (l.length - 1 - (i + 1)) (by omega)
    rwa [show l.length - 1 - (i + 1) + 1 = l.length - 1 - i by omega] at this
theorem range_rev (n : Nat) : (List.range n).reverse = (List.range n).map fun i => n - 1 - i := by
  apply List.ext_getElem
  · simp
  · intro i h1 h2
    simp
theorem turns_rev (l : List P2) : turnsL l.reverse = (turnsL l).reverse := by
  unfold turnsL turnsK
  rw [← List.map_reverse, ← List.filter_reverse, range_rev, List.filter_map, List.map_map, List.length_reverse]
  have e : ∀ i ∈ List.range l.length, (isT l ∘ fun i => l.length - 1 - i) i = isT l.reverse i := by
    intro i hi
    have hi := List.mem_range.1 hi
    show isT l (l.length - 1 - i) = _
    unfold isT
    rw [List.length_reverse]
    rcases Nat.eq_zero_or_pos i with h0 | h0
    · subst h0
      have h1 : decide (l.length - 1 - 0 + 1 = l.length) = true := by simp; omega
      rw [h1]
      simp
    rcases Nat.lt_or_ge (i + 1) l.length with h1 | h1
    · rw [rev_at (by omega), rev_at hi, rev_at h1, show l.length - 1 - (i - 1) = l.length - 1 - i + 1 by omega, show l.length - 1 - (i + 1) = l.length - 1 - i - 1 by omega]
      have a1 : decide (l.length - 1 - i = 0) = false := by simp; omega
      have a2 : decide (l.length - 1 - i + 1 = l.length) = false := by simp; omega
      have a3 : decide (i = 0) = false := by simp; omega
      have a4 : decide (i + 1 = l.length) = false := by simp; omega
      rw [a1, a2, a3, a4]
      simp only [Bool.false_or]
      rw [decide_eq_decide]
      unfold dP
      simp only [ne_eq, Prod.mk.injEq]
      omega
    · have a1 : decide (l.length - 1 - i = 0) = true := by simp; omega
      have a4 : decide (i + 1 = l.length) = true := by simp; omega
      rw [a1, a4]
      simp
  rw [List.filter_congr e]
  apply List.map_congr_left
  intro i hi
  have hi := List.mem_range.1 (List.mem_filter.1 hi).1
  rw [rev_at hi]
  rfl
end Go.Proofs.YtfdnadiliedikaaDoor
