/-
  OUR OWN TEXT. Plates: loops in a loop, that do not meet. No program stands in it but its name.
-/
import Derived.Test.YtfnhbdanfnpdeaaDoorLoopL
import Derived.Test.YtfnhbdanfnpdeaaDoorGeoParts
namespace Go.Proofs.YtfnhbdanfnpdeaaDoor

/-- No edges of two loops meet. -/
def apL (a b : List P2) : Bool := (List.range a.length).all fun i => (List.range b.length).all fun k => !meetP (ptAt a i) (ptAt a (nxt a i)) (ptAt b k) (ptAt b (nxt b k))
theorem apL_iff (a b : List P2) : apL a b = true ↔ ∀ i, i < a.length → ∀ k, k < b.length → meetP (ptAt a i) (ptAt a (nxt a i)) (ptAt b k) (ptAt b (nxt b k)) = false := by
  unfold apL
  simp only [List.all_eq_true, List.mem_range, Bool.not_eq_true']
theorem apL_comm (a b : List P2) : apL b a = apL a b := by
  rw [Bool.eq_iff_iff, apL_iff, apL_iff]
  constructor
  · intro h i hi k hk; rw [meetP_comm]; exact h k hk i hi
  · intro h i hi k hk; rw [meetP_comm]; exact h k hk i hi
theorem apL_side {f : P2 → P2} (hf : Side f) (a b : List P2) : apL (a.map f) (b.map f) = apL a b := by
  rw [Bool.eq_iff_iff, apL_iff, apL_iff]
  simp only [List.length_map, map_nxt]
  constructor
  · intro h i hi k hk; have := h i hi k hk; rwa [map_at hi, map_at hk, map_at (nxt_lt (by omega)), map_at (nxt_lt (by omega)), hf.meet] at this
  · intro h i hi k hk; rw [map_at hi, map_at hk, map_at (nxt_lt (by omega)), map_at (nxt_lt (by omega)), hf.meet]; exact h i hi k hk
theorem apL_rev1 {a b : List P2} (h : apL a b = true) : apL a.reverse b = true := by
  rw [apL_iff] at h ⊢
  intro i hi k hk
  rw [List.length_reverse] at hi
  rw [rev_first hi, rev_last hi, meetP_back1]
  exact h _ (rvE_lt hi) k hk
theorem apL_rev {a b : List P2} (h : apL a b = true) : apL a.reverse b.reverse = true := by
  have h1 := apL_rev1 h
  rw [apL_comm] at h1 ⊢
  exact apL_rev1 h1
/-- Corners of a loop that does not meet another one are all on one side of it. -/
theorem apL_same {o h : List P2} (hm : apL o h = true) : ∀ i, i < h.length → inI o (ptAt h i) = inI o (ptAt h 0) ∧ onL o (ptAt h i) = false := by
  rw [apL_iff] at hm
  have step : ∀ i, i < h.length → inI o (ptAt h i) = inI o (ptAt h (nxt h i)) ∧ onL o (ptAt h i) = false ∧ onL o (ptAt h (nxt h i)) = false := fun i hi => inI_way (fun j hj => hm j hj i hi)
  intro i
  induction i with
  | zero => intro hi; exact ⟨rfl, (step 0 hi).2.1⟩
  | succ n ih =>
    intro hi
    have h1 := step n (by omega)
    rw [nxt_in hi] at h1
    exact ⟨h1.1.symm.trans (ih (by omega)).1, h1.2.2⟩
/-- An edge to the left of a point, or under it, does not pass right of it. -/
theorem pass_right' {a b p : P2} (h1 : a.1 ≤ p.1) (h2 : b.1 ≤ p.1) : passP a b p = false := by
  have key : ∀ a b : P2, a.1 ≤ p.1 → b.1 ≤ p.1 → (decide (a.2 ≤ p.2) && decide (p.2 < b.2) && decide (0 < crs a.1 a.2 b.1 b.2 p.1 p.2)) = false := by
    intro a b h1 h2
    rw [Bool.eq_false_iff]
    intro h
    simp only [Bool.and_eq_true, decide_eq_true_eq] at h
    obtain ⟨⟨ha, hb⟩, hc⟩ := h
    have e : crs a.1 a.2 b.1 b.2 p.1 p.2 = - ((p.1 - b.1) * (p.2 - a.2) + (p.1 - a.1) * (b.2 - p.2)) := by unfold crs; grind
    have t1 := Int.mul_nonneg (show 0 ≤ p.1 - b.1 by omega) (show 0 ≤ p.2 - a.2 by omega)
    have t2 := Int.mul_nonneg (show 0 ≤ p.1 - a.1 by omega) (show 0 ≤ b.2 - p.2 by omega)
    omega
  unfold passP
  split
  · exact key b a h2 h1
  · exact key a b h1 h2
theorem inI_right {l : List P2} {p : P2} (h0 : onL l p = false) (h : ∀ i, i < l.length → (ptAt l i).1 ≤ p.1) : inI l p = -1 := by
  refine inI_none h0 ?_
  unfold cntP
  rw [sumE_zero]
  · rfl
  · intro i hi
    rw [pass_right' (h i hi) (h _ (nxt_lt (by omega)))]; rfl
/-- The rightmost corner. -/
theorem rightmost {l : List P2} (h : 0 < l.length) : ∃ i, i < l.length ∧ ∀ k, k < l.length → (ptAt l k).1 ≤ (ptAt l i).1 := by
  have : ∀ n, 0 < n → ∃ i, i < n ∧ ∀ k, k < n → (ptAt l k).1 ≤ (ptAt l i).1 := by
    intro n
    induction n with
    | zero => intro h; omega
    | succ n ih =>
      intro _
      rcases Nat.eq_zero_or_pos n with rfl | hn
      · exact ⟨0, by omega, fun k hk => by
          have e : k = 0 := by omega
          subst e; exact Int.le_refl _⟩
      · obtain ⟨i, hi, hm⟩ := ih hn
        by_cases hle : (ptAt l n).1 ≤ (ptAt l i).1
        · refine ⟨i, by omega, fun k hk => ?_⟩
          by_cases e : k = n
          · subst e; exact hle
          · exact hm k (by omega)
        · refine ⟨n, by omega, fun k hk => ?_⟩
          by_cases e : k = n
          · subst e; omega
          · have := hm k (by omega); omega
  exact this _ h
/-- Not each of two loops is in the other one. -/
theorem not_both {o h : List P2} (ho : 0 < o.length) (hh : 0 < h.length) (hm : apL o h = true) (h1 : inI o (ptAt h 0) = 1) : ∀ i, i < o.length → inI h (ptAt o i) = -1 := by
  have s1 := apL_same hm
  have s2 := apL_same (show apL h o = true by rw [apL_comm]; exact hm)
  obtain ⟨i, hi, him⟩ := rightmost ho
  obtain ⟨k, hk, hkm⟩ := rightmost hh
  have key : inI h (ptAt o i) = -1 := by
    by_cases hle : (ptAt h k).1 ≤ (ptAt o i).1
    · exact inI_right (s2 i hi).2 (fun j hj => by have := hkm j hj; omega)
    · have := inI_right (s1 k hk).2 (fun j hj => by have := him j hj; omega)
      rw [(s1 k hk).1, h1] at this
      omega
  intro j hj
  rw [(s2 j hj).1, ← (s2 i hi).1]; exact key

/-- The second loop is in the first one, without meeting it. -/
def arB (o h : List P2) : Bool := apL o h && decide (inI o (ptAt h 0) = 1)
/-- Two loops, beyond each other, that do not meet. -/
def beB (a b : List P2) : Bool := apL a b && decide (inI a (ptAt b 0) = -1) && decide (inI b (ptAt a 0) = -1)
/-- A plate is ok. -/
def plV (o : List P2) (hs : List (List P2)) : Bool :=
  match hs with
  | [] => okV o
  | [h] => okV o && okV h && arB o h
  | [h, k] => okV o && okV h && okV k && arB o h && arB o k && beB h k
  | _ => false
theorem arB_iff (o h : List P2) : arB o h = true ↔ apL o h = true ∧ inI o (ptAt h 0) = 1 := by unfold arB; simp
theorem beB_iff (a b : List P2) : beB a b = true ↔ apL a b = true ∧ inI a (ptAt b 0) = -1 ∧ inI b (ptAt a 0) = -1 := by unfold beB; simp [and_assoc]
theorem beB_comm (a b : List P2) : beB b a = beB a b := by
  rw [Bool.eq_iff_iff, beB_iff, beB_iff, apL_comm]
  constructor <;> exact fun ⟨x, y, z⟩ => ⟨x, z, y⟩
theorem okV_pos {l : List P2} (h : okV l = true) : 3 ≤ l.length ∧ l.length ≤ 8 := by have := (okV_iff l).1 h; exact ⟨this.1, this.2⟩

/-- What turns a plate into another one. -/
structure Turns (f : List P2 → List P2) : Prop where
  ok : ∀ l, okV l = true → okV (f l) = true
  ap : ∀ a b, apL a b = true → apL (f a) (f b) = true
  inn : ∀ a b, okV a = true → okV b = true → apL a b = true → inI (f a) (ptAt (f b) 0) = inI a (ptAt b 0)
theorem turns_mir : Turns (List.map mirP) := ⟨fun l h => (okV_iff _).2 (((okV_iff l).1 h).side mir_side), fun a b h => by rw [apL_side mir_side]; exact h, fun a b _ hb _ => by
  have := okV_pos hb
  rw [map_at (by omega)]; exact inI_mir a (ptAt b 0)⟩
theorem turns_swp : Turns (List.map swpP) := ⟨fun l h => (okV_iff _).2 (((okV_iff l).1 h).side swp_side), fun a b h => by rw [apL_side swp_side]; exact h, fun a b _ hb _ => by
  have := okV_pos hb
  rw [map_at (by omega)]; exact inI_swp a (ptAt b 0)⟩
theorem turns_rev : Turns List.reverse := ⟨fun l h => (okV_iff _).2 ((okV_iff l).1 h).rev, fun a b h => apL_rev h, fun a b _ hb hm => by
  have := okV_pos hb
  rw [inI_rev, rev_at (by omega)]
  exact (apL_same hm _ (by omega)).1⟩
theorem arB_turn {f : List P2 → List P2} (hf : Turns f) {a b : List P2} (ha : okV a = true) (hb : okV b = true) (h : arB a b = true) : arB (f a) (f b) = true := by
  rw [arB_iff] at h ⊢
  exact ⟨hf.ap _ _ h.1, by rw [hf.inn _ _ ha hb h.1]; exact h.2⟩
theorem beB_turn {f : List P2 → List P2} (hf : Turns f) {a b : List P2} (ha : okV a = true) (hb : okV b = true) (h : beB a b = true) : beB (f a) (f b) = true := by
  rw [beB_iff] at h ⊢
  exact ⟨hf.ap _ _ h.1, by rw [hf.inn _ _ ha hb h.1]; exact h.2.1, by rw [hf.inn _ _ hb ha (by rw [apL_comm]; exact h.1)]; exact h.2.2⟩
theorem plV_turn {f : List P2 → List P2} (hf : Turns f) {o : List P2} {hs : List (List P2)} (h : plV o hs = true) : plV (f o) (hs.map f) = true := by
  match hs, h with
  | [], h => exact hf.ok _ h
  | [a], h =>
    simp only [plV, Bool.and_eq_true, List.map_cons, List.map_nil] at h ⊢
    exact ⟨⟨hf.ok _ h.1.1, hf.ok _ h.1.2⟩, arB_turn hf h.1.1 h.1.2 h.2⟩
  | [a, b], h =>
    simp only [plV, Bool.and_eq_true, List.map_cons, List.map_nil] at h ⊢
    obtain ⟨⟨⟨⟨⟨h1, h2⟩, h3⟩, h4⟩, h5⟩, h6⟩ := h
    exact ⟨⟨⟨⟨⟨hf.ok _ h1, hf.ok _ h2⟩, hf.ok _ h3⟩, arB_turn hf h1 h2 h4⟩, arB_turn hf h1 h3 h5⟩, beB_turn hf h2 h3 h6⟩
  | _ :: _ :: _ :: _, h => simp [plV] at h
theorem plV_less {o : List P2} {hs : List (List P2)} (h : plV o hs = true) : plV o hs.dropLast = true := by
  match hs, h with
  | [], h => exact h
  | [a], h => simp only [plV, Bool.and_eq_true, List.dropLast] at h ⊢; exact h.1.1
  | [a, b], h =>
    simp only [plV, Bool.and_eq_true, List.dropLast] at h ⊢
    exact ⟨⟨h.1.1.1.1.1, h.1.1.1.1.2⟩, h.1.1.2⟩
  | _ :: _ :: _ :: _, h => simp [plV] at h
theorem plV_back {o : List P2} {hs : List (List P2)} (h : plV o hs = true) : plV o hs.reverse = true := by
  match hs, h with
  | [], h => exact h
  | [a], h => exact h
  | [a, b], h =>
    simp only [plV, Bool.and_eq_true, List.reverse_cons, List.reverse_nil, List.nil_append, List.cons_append] at h ⊢
    obtain ⟨⟨⟨⟨⟨h1, h2⟩, h3⟩, h4⟩, h5⟩, h6⟩ := h
    exact ⟨⟨⟨⟨⟨h1, h3⟩, h2⟩, h5⟩, h4⟩, by rw [beB_comm]; exact h6⟩
  | _ :: _ :: _ :: _, h => simp [plV] at h
theorem plV_len {o : List P2} {hs : List (List P2)} (h : plV o hs = true) : hs.length ≤ 2 := by
  match hs, h with
  | [], _ => simp
  | [a], _ => simp
  | [a, b], _ => simp
  | _ :: _ :: _ :: _, h => simp [plV] at h
/-- In order: outer loop, holes; what holds of them. -/
structure PlL (o : List P2) (hs : List (List P2)) : Prop where
  out : okV o = true
  len : hs.length ≤ 2
  ok : ∀ h ∈ hs, okV h = true
  ar : ∀ h ∈ hs, arB o h = true
  be : ∀ i k, i < k → k < hs.length → beB (hs[i]?.getD []) (hs[k]?.getD []) = true
theorem plV_iff (o : List P2) (hs : List (List P2)) : plV o hs = true ↔ PlL o hs := by
  match hs with
  | [] => exact ⟨fun h => ⟨h, by simp, by simp, by simp, fun i k _ hk => by simp at hk⟩, fun h => h.out⟩
  | [a] =>
    simp only [plV, Bool.and_eq_true]
    constructor
    · intro h
      exact ⟨h.1.1, by simp, fun x hx => by simp at hx; rw [hx]; exact h.1.2, fun x hx => by simp at hx; rw [hx]; exact h.2, fun i k _ hk => by simp at hk; omega⟩
    · intro h; exact ⟨⟨h.out, h.ok a (by simp)⟩, h.ar a (by simp)⟩
  | [a, b] =>
    simp only [plV, Bool.and_eq_true]
    constructor
    · rintro ⟨⟨⟨⟨⟨h1, h2⟩, h3⟩, h4⟩, h5⟩, h6⟩
      refine ⟨h1, by simp, ?_, ?_, ?_⟩
      · intro x hx; simp at hx; rcases hx with rfl | rfl <;> assumption
      · intro x hx; simp at hx; rcases hx with rfl | rfl <;> assumption
      · intro i k h hk
        simp at hk
        obtain rfl : i = 0 := by omega
        obtain rfl : k = 1 := by omega
        exact h6
    · intro h
      exact ⟨⟨⟨⟨⟨h.out, h.ok a (by simp)⟩, h.ok b (by simp)⟩, h.ar a (by simp)⟩, h.ar b (by simp)⟩, h.be 0 1 (by omega) (by simp)⟩
  | _ :: _ :: _ :: _ =>
    simp only [plV]
    exact ⟨fun h => (by cases h), fun h => (by have := h.len; simp at this)⟩
end Go.Proofs.YtfnhbdanfnpdeaaDoor
