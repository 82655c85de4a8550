/-
  OUR OWN TEXT. A loop with a point left out: where nothing turns it is a loop as large. No program stands in it.
-/
import Derived.Test.YtfnhbdanfnpdeaaDoorLoopX
namespace Go.Proofs.YtfnhbdanfnpdeaaDoor
theorem at_tail (c : P2) (m : List P2) (i : Nat) : ptAt (c :: m) (i + 1) = ptAt m i := by simp [ptAt]
theorem at_head (c : P2) (m : List P2) : ptAt (c :: m) 0 = c := by simp [ptAt]
theorem nxt_tail (c : P2) (m : List P2) {i : Nat} (h : i < m.length) : nxt (c :: m) i = i + 1 := by
  unfold nxt; rw [List.length_cons]; exact Nat.mod_eq_of_lt (by omega)
theorem nxt_end (c : P2) (m : List P2) : nxt (c :: m) m.length = 0 := by unfold nxt; rw [List.length_cons, Nat.mod_self]
theorem nxt_in {m : List P2} {i : Nat} (h : i + 1 < m.length) : nxt m i = i + 1 := Nat.mod_eq_of_lt h
theorem nxt_out {m : List P2} {i : Nat} (h : i + 1 = m.length) : nxt m i = 0 := by unfold nxt; rw [h, Nat.mod_self]
/-- In line, and neither goes back: between. -/
theorem between {a c b : P2} (hac : a ≠ c) (hcb : c ≠ b) (h0 : crs a.1 a.2 c.1 c.2 b.1 b.2 = 0) (h1 : hasP a c b = false) (h2 : hasP c b a = false) : hasP a b c = true ∧ a ≠ b := by
  have hne : a ≠ b := fun e => by subst e; rw [hasP_first] at h1; cases h1
  have d1 : ¬ (a.1 = c.1 ∧ a.2 = c.2) := fun ⟨e1, e2⟩ => hac (Prod.ext e1 e2)
  have d2 : ¬ (c.1 = b.1 ∧ c.2 = b.2) := fun ⟨e1, e2⟩ => hcb (Prod.ext e1 e2)
  refine ⟨?_, hne⟩
  unfold hasP at *
  rw [hasC_iff]
  have e1 : crs a.1 a.2 b.1 b.2 c.1 c.2 = 0 := by unfold crs at *; grind
  have e2 : crs c.1 c.2 b.1 b.2 a.1 a.2 = 0 := by unfold crs at *; grind
  refine ⟨e1, ?_⟩
  have n1 : ¬ dt b.1 b.2 a.1 a.2 c.1 c.2 ≤ 0 := fun h => by
    have : hasC a.1 a.2 c.1 c.2 b.1 b.2 = true := (hasC_iff _ _ _ _ _ _).2 ⟨h0, h⟩
    rw [this] at h1; cases h1
  have n2 : ¬ dt a.1 a.2 c.1 c.2 b.1 b.2 ≤ 0 := fun h => by
    have : hasC c.1 c.2 b.1 b.2 a.1 a.2 = true := (hasC_iff _ _ _ _ _ _).2 ⟨e2, h⟩
    rw [this] at h2; cases h2
  have p1 := dt_self_pos d1
  have p2 := dt_self_pos d2
  -- (ca·cb)(ab²) = .. : by Lagrange in line
  have k : dt c.1 c.2 a.1 a.2 b.1 b.2 * dt c.1 c.2 a.1 a.2 b.1 b.2 = dt a.1 a.2 c.1 c.2 c.1 c.2 * dt c.1 c.2 b.1 b.2 b.1 b.2 := by
    unfold dt crs at *; grind
  have s1 : dt a.1 a.2 c.1 c.2 b.1 b.2 = dt a.1 a.2 c.1 c.2 c.1 c.2 - dt c.1 c.2 a.1 a.2 b.1 b.2 := by unfold dt; grind
  have s2 : dt b.1 b.2 a.1 a.2 c.1 c.2 = dt c.1 c.2 b.1 b.2 b.1 b.2 - dt c.1 c.2 a.1 a.2 b.1 b.2 := by unfold dt; grind
  generalize dt c.1 c.2 a.1 a.2 b.1 b.2 = x at *
  generalize dt a.1 a.2 c.1 c.2 c.1 c.2 = y at *
  generalize dt c.1 c.2 b.1 b.2 b.1 b.2 = z at *
  rcases Int.lt_or_le 0 x with h | h
  · exfalso
    have q1 : x < y := by omega
    have q2 : x < z := by omega
    have : x * x < y * z := by
      have a1 : x * x < y * x := Int.mul_lt_mul_of_pos_right q1 h
      have a2 : y * x < y * z := Int.mul_lt_mul_of_pos_left q2 (by omega)
      omega
    omega
  · exact h
theorem sgP_ne {a b : P2} (h : sgP a b = true) : a ≠ b := fun e => by subst e; unfold sgP at h; rw [sgB_self] at h; cases h
theorem sgP_mk {a b : P2} (ha : ptB a.1 a.2 = true) (hb : ptB b.1 b.2 = true) (h : a ≠ b) : sgP a b = true := by
  unfold sgP; rw [sgB_iff]; rw [ptB_iff] at ha hb
  exact ⟨ha, hb, fun ⟨e1, e2⟩ => h (Prod.ext e1 e2)⟩
theorem d_ne {a b : P2} (h : a ≠ b) : ¬ (a.1 = b.1 ∧ a.2 = b.2) := fun ⟨e1, e2⟩ => h (Prod.ext e1 e2)
/-- Left out at the head, where nothing turns. -/
theorem OkL.less {c : P2} {m : List P2} (h : OkL (c :: m)) (hm : 3 ≤ m.length)
    (h0 : crs (ptAt m (m.length - 1)).1 (ptAt m (m.length - 1)).2 c.1 c.2 (ptAt m 0).1 (ptAt m 0).2 = 0) : OkL m := by
  have hl : (c :: m).length = m.length + 1 := by simp
  obtain ⟨a, ha⟩ : ∃ a, ptAt m (m.length - 1) = a := ⟨_, rfl⟩
  obtain ⟨b, hb⟩ : ∃ b, ptAt m 0 = b := ⟨_, rfl⟩
  rw [ha, hb] at h0
  -- edges of c :: m
  have E0 : sgP c b = true := by have := h.seg 0 (by omega); unfold sgE at this; rwa [nxt_tail c m (by omega), at_head, at_tail, hb] at this
  have EN : sgP a c = true := by
    have := h.seg m.length (by omega); unfold sgE at this
    rw [nxt_end, at_head] at this
    have e : ptAt (c :: m) m.length = a := by rw [← ha, ← at_tail c m]; congr 1; omega
    rwa [e] at this
  have EM : ∀ i, i + 1 < m.length → sgP (ptAt m i) (ptAt m (i + 1)) = true := fun i hi => by
    have := h.seg (i + 1) (by omega); unfold sgE at this
    rwa [nxt_tail c m hi, at_tail, at_tail] at this
  have iN : ptAt (c :: m) m.length = a := by rw [← ha, ← at_tail c m]; congr 1; omega
  have BN : hasP a c b = false ∧ hasP c b a = false := by
    have := h.back m.length (by omega); unfold backE at this
    rw [nxt_end, nxt_tail c m (by omega), at_head, at_tail, iN, hb] at this
    simpa [Bool.or_eq_false_iff] using this
  obtain ⟨hab, nab⟩ := between (sgP_ne EN) (sgP_ne E0) h0 BN.1 BN.2
  have split : ∀ p, hasP a b p = true → hasP a c p = true ∨ hasP c b p = true := fun p hp => has_part (d_ne nab) hab hp
  have parts : ∀ p q, meetP a b p q = true → meetP a c p q = true ∨ meetP c b p q = true := fun p q hp => by
    have := meet_parts (d_ne nab) hab (fun ⟨e1, e2⟩ => sgP_ne EN (Prod.ext e1.symm e2.symm)) (fun ⟨e1, e2⟩ => sgP_ne E0 (Prod.ext e1 e2)) hp
    exact Bool.or_eq_true_iff.1 this
  have A0 : ∀ j, 1 ≤ j → j + 2 ≤ m.length → meetP c b (ptAt m j) (ptAt m (j + 1)) = false := fun j h1 h2 => by
    have := h.apart 0 (j + 1) (by omega) (by omega) (by omega) (by rw [nxt_tail c m (by omega)]; omega) (by rw [nxt_tail c m (by omega)]; omega)
    unfold meetE at this
    rwa [nxt_tail c m (by omega), nxt_tail c m (by omega), at_head, at_tail, at_tail, at_tail, hb] at this
  have AN : ∀ j, j + 3 ≤ m.length → meetP a c (ptAt m j) (ptAt m (j + 1)) = false := fun j h2 => by
    have := h.apart m.length (j + 1) (by omega) (by omega) (by omega) (by rw [nxt_tail c m (by omega)]; omega) (by rw [nxt_end]; omega)
    unfold meetE at this
    rwa [nxt_end, nxt_tail c m (by omega), at_head, at_tail, at_tail, iN] at this
  have B0 : hasP c b (ptAt m 1) = false ∧ hasP b (ptAt m 1) c = false := by
    have := h.back 0 (by omega); unfold backE at this
    rw [nxt_tail c m (by omega), nxt_tail c m (by omega), at_head, at_tail, at_tail, hb] at this
    simpa [Bool.or_eq_false_iff] using this
  have iM : m.length - 2 + 1 = m.length - 1 := by omega
  have BM : hasP (ptAt m (m.length - 2)) a c = false ∧ hasP a c (ptAt m (m.length - 2)) = false := by
    have := h.back (m.length - 1) (by omega); unfold backE at this
    have e1 : nxt (c :: m) (m.length - 1) = m.length := by rw [nxt_tail c m (by omega)]; omega
    have e2 : ptAt (c :: m) (m.length - 1) = ptAt m (m.length - 2) := by rw [← at_tail c m]; congr 1; omega
    rw [e1, nxt_end, at_head, iN, e2] at this
    simpa [Bool.or_eq_false_iff] using this
  have la : nxt m (m.length - 1) = 0 := nxt_out (by omega)
  refine ⟨hm, by have := h.hi; omega, fun i hi => ?_, fun i hi => ?_, ?_⟩
  · unfold sgE
    rcases Nat.lt_or_ge (i + 1) m.length with h1 | h1
    · rw [nxt_in h1]; exact EM i h1
    · obtain rfl : i = m.length - 1 := by omega
      rw [la, ha, hb]
      exact sgP_mk (sgP_pt EN).1 (sgP_pt E0).2 nab
  · unfold backE
    rcases Nat.lt_or_ge (i + 2) m.length with h1 | h1
    · have := h.back (i + 1) (by omega); unfold backE at this
      rw [nxt_tail c m (by omega), nxt_tail c m (by omega), at_tail, at_tail, at_tail] at this
      rw [nxt_in (by omega), nxt_in (by omega)]; exact this
    · rcases Nat.lt_or_ge (i + 1) m.length with h2 | h2
      · obtain rfl : i = m.length - 2 := by omega
        have e1 : nxt m (m.length - 2) = m.length - 1 := by rw [nxt_in (by omega)]; omega
        rw [e1, la, ha, hb, Bool.or_eq_false_iff]
        have k := A0 (m.length - 2) (by omega) (by omega)
        rw [iM, ha] at k
        constructor
        · exact (meet_false k).2.2.2.1
        · cases e : hasP a b (ptAt m (m.length - 2))
          · rfl
          · rcases split _ e with e | e
            · rw [BM.2] at e; cases e
            · rw [(meet_false k).1] at e; cases e
      · obtain rfl : i = m.length - 1 := by omega
        rw [la, nxt_in (by omega), ha, hb, Bool.or_eq_false_iff]
        have k := AN 0 (by omega)
        rw [hb] at k
        constructor
        · cases e : hasP a b (ptAt m (0 + 1))
          · rfl
          · rcases split _ e with e | e
            · rw [(meet_false k).2.1] at e; cases e
            · rw [B0.1] at e; cases e
        · exact (meet_false k).2.2.1
  · have main : ∀ i j, i < m.length → j < m.length → i < j → nxt m j ≠ i → nxt m i ≠ j → meetE m i j = false := fun i j hi hj lt n2 n3 => by
      have e1 : nxt m i = i + 1 := nxt_in (by omega)
      rcases Nat.lt_or_ge (j + 1) m.length with h1 | h1
      · have := h.apart (i + 1) (j + 1) (by omega) (by omega) (by omega) (by rw [nxt_tail c m h1]; omega) (by rw [nxt_tail c m (by omega)]; omega)
        unfold meetE at this ⊢
        rw [nxt_tail c m (by omega), nxt_tail c m (by omega), at_tail, at_tail, at_tail, at_tail] at this
        rw [e1, nxt_in h1]; exact this
      · obtain rfl : j = m.length - 1 := by omega
        rw [la] at n2
        rw [e1] at n3
        unfold meetE; rw [e1, la, ha, hb]
        cases e : meetP (ptAt m i) (ptAt m (i + 1)) a b
        · rfl
        · rw [← meetP_comm] at e
          rcases parts _ _ e with e | e
          · rw [AN i (by omega)] at e; cases e
          · rw [A0 i (by omega) (by omega)] at e; cases e
    intro i j hi hj n1 n2 n3
    rcases Nat.lt_or_ge i j with lt | ge
    · exact main i j hi hj lt n2 n3
    · rw [← meetE_comm]; exact main j i hj hi (by omega) n3 n2
theorem sizeI_less (c : P2) (m : List P2) (hm : 1 ≤ m.length) :
    sizeI (c :: m) = sizeI m + crs (ptAt m (m.length - 1)).1 (ptAt m (m.length - 1)).2 c.1 c.2 (ptAt m 0).1 (ptAt m 0).2 := by
  obtain ⟨k, hk⟩ : ∃ k, m.length = k + 1 := ⟨m.length - 1, by omega⟩
  have e1 : sizeI (c :: m) = sumF (swE (c :: m)) (1 + k) + swE (c :: m) (1 + k) := by
    unfold sizeI; rw [List.length_cons, hk, Nat.add_comm 1 k]; rfl
  have e2 : sizeI m = sumF (swE m) k + swE m k := by unfold sizeI; rw [hk]; rfl
  rw [e1, e2, sumF_split]
  have e3 : sumF (swE (c :: m)) 1 = crs 0 0 c.1 c.2 (ptAt m 0).1 (ptAt m 0).2 := by
    simp only [sumF]; unfold swE; rw [nxt_tail c m (by omega), at_head, at_tail]; omega
  have e4 : sumF (fun i => swE (c :: m) (1 + i)) k = sumF (swE m) k := sumF_congr fun i hi => by
    unfold swE; rw [Nat.add_comm 1 i, nxt_tail c m (by omega), at_tail, at_tail, nxt_in (by omega)]
  have e5 : swE (c :: m) (1 + k) = crs 0 0 (ptAt m k).1 (ptAt m k).2 c.1 c.2 := by
    unfold swE
    have : nxt (c :: m) (1 + k) = 0 := by rw [Nat.add_comm 1 k, ← hk]; exact nxt_end c m
    rw [this, at_head, Nat.add_comm 1 k, at_tail]
  have e6 : swE m k = crs 0 0 (ptAt m k).1 (ptAt m k).2 (ptAt m 0).1 (ptAt m 0).2 := by unfold swE; rw [nxt_out hk.symm]
  rw [e3, e4, e5, e6]
  have := crs_split (ptAt m k).1 (ptAt m k).2 c.1 c.2 (ptAt m 0).1 (ptAt m 0).2
  have e7 : m.length - 1 = k := by omega
  rw [e7]; omega
/-- Without the point at a place. -/
def without (k : Nat) (l : List P2) : List P2 := l.take k ++ l.drop (k + 1)
theorem without_len {k : Nat} {l : List P2} (hk : k < l.length) : (without k l).length = l.length - 1 := by simp [without]; omega
theorem rot_cons {k : Nat} {l : List P2} (hk : k < l.length) : ∃ m, rot k l = ptAt l k :: m ∧ m.length = l.length - 1 ∧ rot k (without k l) = m := by
  refine ⟨l.drop (k + 1) ++ l.take k, ?_, by simp; omega, ?_⟩
  · unfold rot
    have e : l.drop k = ptAt l k :: l.drop (k + 1) := by rw [ptAt_lt hk]; exact List.drop_eq_getElem_cons hk
    rw [e]; rfl
  · have e : (l.take k).length = k := by simp; omega
    unfold rot without
    have d := List.drop_left (l₁ := l.take k) (l₂ := l.drop (k + 1))
    have t := List.take_left (l₁ := l.take k) (l₂ := l.drop (k + 1))
    rw [e] at d t
    rw [d, t]
theorem rot_back (k : Nat) (l : List P2) : rot (l.length - k) (rot k l) = l := by
  have e : (l.drop k).length = l.length - k := by simp
  unfold rot
  have d := List.drop_left (l₁ := l.drop k) (l₂ := l.take k)
  have t := List.take_left (l₁ := l.drop k) (l₂ := l.take k)
  rw [e] at d t
  rw [d, t, List.take_append_drop]
theorem OkL.of_rot {l : List P2} {k : Nat} (hk : k < l.length) (h : OkL (YtfnhbdanfnpdeaaDoor.rot k l)) : OkL l := by
  rcases Nat.eq_zero_or_pos k with rfl | h0
  · simpa [YtfnhbdanfnpdeaaDoor.rot] using h
  · have := h.rot (k := l.length - k) (by rw [rot_len (by omega)]; omega)
    rwa [rot_back] at this
theorem rot_last {l : List P2} {k : Nat} (hk : k < l.length) {m : List P2} (h : rot k l = ptAt l k :: m) (hm : m.length = l.length - 1) (h2 : 2 ≤ l.length) :
    ptAt m (m.length - 1) = ptAt l ((k + l.length - 1) % l.length) ∧ ptAt m 0 = ptAt l ((k + 1) % l.length) := by
  constructor
  · have := rot_at (l := l) hk (i := l.length - 1) (by omega)
    rw [h] at this
    have e : l.length - 1 = (m.length - 1) + 1 := by omega
    rw [e, at_tail] at this
    rw [this]; congr 2; omega
  · have := rot_at (l := l) hk (i := 1) (by omega)
    rw [h, at_tail] at this
    rw [this, Nat.add_comm 1 k]
/-- LEFT OUT WHERE NOTHING TURNS. -/
theorem less_ok {l : List P2} (h : OkL l) (h4 : 4 ≤ l.length) {k : Nat} (hk : k < l.length)
    (h0 : crs (ptAt l ((k + l.length - 1) % l.length)).1 (ptAt l ((k + l.length - 1) % l.length)).2 (ptAt l k).1 (ptAt l k).2 (ptAt l ((k + 1) % l.length)).1 (ptAt l ((k + 1) % l.length)).2 = 0) : OkL (without k l) := by
  obtain ⟨m, e1, e2, e3⟩ := rot_cons hk
  obtain ⟨e4, e5⟩ := rot_last hk e1 e2 (by omega)
  have hr := h.rot hk
  rw [e1] at hr
  have hm : OkL m := OkL.less hr (by omega) (by rw [e4, e5]; exact h0)
  rcases Nat.lt_or_ge k (without k l).length with hk' | hk'
  · exact OkL.of_rot hk' (by rw [e3]; exact hm)
  · have hw := without_len hk
    have : rot k (without k l) = without k l := by unfold rot; rw [List.drop_eq_nil_of_le hk', List.take_of_length_le hk']; rfl
    rw [← this, e3]; exact hm
theorem less_size {l : List P2} (h4 : 2 ≤ l.length) {k : Nat} (hk : k < l.length) :
    sizeI l = sizeI (without k l) + crs (ptAt l ((k + l.length - 1) % l.length)).1 (ptAt l ((k + l.length - 1) % l.length)).2 (ptAt l k).1 (ptAt l k).2 (ptAt l ((k + 1) % l.length)).1 (ptAt l ((k + 1) % l.length)).2 := by
  obtain ⟨m, e1, e2, e3⟩ := rot_cons hk
  obtain ⟨e4, e5⟩ := rot_last hk e1 e2 (by omega)
  have s1 := sizeI_rot hk
  have s2 := sizeI_less (ptAt l k) m (by omega)
  rw [e4, e5, ← e1, s1] at s2
  rw [s2]
  have : sizeI (without k l) = sizeI m := by
    rcases Nat.lt_or_ge k (without k l).length with hk' | hk'
    · rw [← e3, sizeI_rot hk']
    · have : rot k (without k l) = without k l := by unfold rot; rw [List.drop_eq_nil_of_le hk', List.take_of_length_le hk']; rfl
      rw [← this, e3]
  rw [this]
end Go.Proofs.YtfnhbdanfnpdeaaDoor
