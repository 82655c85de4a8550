/-
  OUR OWN TEXT. Where a point is, seen from a plate. No program stands in it but its name.
-/
import Derived.Test.YtfnhbdanfnpdeaaDoorPlateM
namespace Go.Proofs.YtfnhbdanfnpdeaaDoor

/-- A point between: its side of a line is weighed from the ends'. -/
theorem weigh {a b q : P2} (h : crs a.1 a.2 b.1 b.2 q.1 q.2 = 0) (c d : P2) : crs c.1 c.2 d.1 d.2 q.1 q.2 * dt a.1 a.2 b.1 b.2 b.1 b.2 = crs c.1 c.2 d.1 d.2 a.1 a.2 * (dt a.1 a.2 b.1 b.2 b.1 b.2 - dt a.1 a.2 b.1 b.2 q.1 q.2) + crs c.1 c.2 d.1 d.2 b.1 b.2 * dt a.1 a.2 b.1 b.2 q.1 q.2 := by
  unfold dt crs at *; grind
theorem weighD {a b q : P2} (h : crs a.1 a.2 b.1 b.2 q.1 q.2 = 0) (c d : P2) : dt c.1 c.2 d.1 d.2 q.1 q.2 * dt a.1 a.2 b.1 b.2 b.1 b.2 = dt c.1 c.2 d.1 d.2 a.1 a.2 * (dt a.1 a.2 b.1 b.2 b.1 b.2 - dt a.1 a.2 b.1 b.2 q.1 q.2) + dt c.1 c.2 d.1 d.2 b.1 b.2 * dt a.1 a.2 b.1 b.2 q.1 q.2 := by
  unfold dt crs at *; grind
/-- A segment through a point of another one splits its ends, or has one, or lies in its line. -/
theorem split_or {a b c d q : P2} (hab : a ≠ b) (h1 : hasP a b q = true) (h2 : hasP c d q = true) :
    splB c.1 c.2 d.1 d.2 a.1 a.2 b.1 b.2 = true ∨ hasP c d a = true ∨ hasP c d b = true ∨ (crs c.1 c.2 d.1 d.2 a.1 a.2 = 0 ∧ crs c.1 c.2 d.1 d.2 b.1 b.2 = 0) := by
  have hd := d_ne hab
  obtain ⟨q1, q2, q3⟩ := (has_along hd).1 h1
  have hD := dt_self_pos hd
  have w := weigh q1 c d
  have hc0 : crs c.1 c.2 d.1 d.2 q.1 q.2 = 0 := ((hasC_iff _ _ _ _ _ _).1 h2).1
  rw [hc0, Int.zero_mul] at w
  by_cases ha : q = a
  · subst ha; exact .inr (.inl h2)
  by_cases hb : q = b
  · subst hb; exact .inr (.inr (.inl h2))
  have k1 := has_end_dir hd h1 (d_ne hb)
  have k2 : 0 < dt a.1 a.2 b.1 b.2 q.1 q.2 := by
    have := has_end_dir (d_ne (Ne.symm hab)) (by rw [has_back a.1 a.2]; exact h1) (d_ne ha)
    rw [dt_self_back a.1 a.2, dt_back a.1 a.2 b.1 b.2 q.1 q.2] at this
    omega
  rw [spl_iff]
  generalize crs c.1 c.2 d.1 d.2 a.1 a.2 = u at *
  generalize crs c.1 c.2 d.1 d.2 b.1 b.2 = v at *
  generalize dt a.1 a.2 b.1 b.2 b.1 b.2 - dt a.1 a.2 b.1 b.2 q.1 q.2 = s at *
  generalize dt a.1 a.2 b.1 b.2 q.1 q.2 = t at *
  rcases Int.lt_trichotomy u 0 with hu | hu | hu
  · left; left
    refine ⟨hu, ?_⟩
    have := Int.mul_neg_of_neg_of_pos hu k1
    rcases Int.lt_or_le 0 v with h | h
    · exact h
    · have := Int.mul_nonpos_of_nonpos_of_nonneg h (show 0 ≤ t by omega); omega
  · right; right; right
    rw [hu, Int.zero_mul, Int.zero_add] at w
    rcases Int.mul_eq_zero.1 w.symm with h | h
    · exact ⟨hu, h⟩
    · omega
  · left; right
    refine ⟨hu, ?_⟩
    have := Int.mul_pos hu k1
    rcases Int.lt_or_le v 0 with h | h
    · exact h
    · have := Int.mul_nonneg h (show 0 ≤ t by omega); omega
theorem opp_of {u v s t T M : Int} (hs : 0 ≤ s) (ht : 0 ≤ t) (hst : 0 < s + t) (w : T * (s + t) = u * s + v * t) (T0 : 0 ≤ T) (T1 : T ≤ M) (hu : ¬ (0 ≤ u ∧ u ≤ M)) (hv : ¬ (0 ≤ v ∧ v ≤ M)) : u * v ≤ 0 := by
  by_cases h1 : u < 0
  · by_cases h2 : v < 0
    · exfalso
      have t1 := Int.mul_le_mul_of_nonneg_right (show u ≤ -1 by omega) hs
      have t2 := Int.mul_le_mul_of_nonneg_right (show v ≤ -1 by omega) ht
      have t3 := Int.mul_nonneg T0 (show 0 ≤ s + t by omega)
      omega
    · exact Int.mul_nonpos_of_nonpos_of_nonneg (by omega) (by omega)
  · by_cases h2 : v < 0
    · exact Int.mul_nonpos_of_nonneg_of_nonpos (by omega) (by omega)
    · exfalso
      have t1 := Int.mul_le_mul_of_nonneg_right (show M + 1 ≤ u by omega) hs
      have t2 := Int.mul_le_mul_of_nonneg_right (show M + 1 ≤ v by omega) ht
      have t3 := Int.mul_le_mul_of_nonneg_right T1 (show 0 ≤ s + t by omega)
      have e : (M + 1) * s + (M + 1) * t = M * (s + t) + (s + t) := by grind
      omega
/-- Who has a point in common meets. -/
theorem common_meet {a b c d q : P2} (hab : a ≠ b) (hcd : c ≠ d) (h1 : hasP a b q = true) (h2 : hasP c d q = true) : meetP a b c d = true := by
  unfold meetP
  rw [meet_alt0]
  rcases split_or hab h1 h2 with h | h | h | ⟨h3, h4⟩
  · rcases split_or hcd h2 h1 with h' | h' | h' | ⟨h5, h6⟩
    · rw [h, h']; rfl
    · unfold hasP at h'; rw [h']; simp
    · unfold hasP at h'; rw [h']; simp
    · -- the other one lies in the line: so does this one
      exfalso
      rw [spl_iff] at h
      have e1 : crs c.1 c.2 d.1 d.2 a.1 a.2 * dt a.1 a.2 b.1 b.2 b.1 b.2 = crs a.1 a.2 b.1 b.2 d.1 d.2 * dt a.1 a.2 b.1 b.2 c.1 c.2 - crs a.1 a.2 b.1 b.2 c.1 c.2 * dt a.1 a.2 b.1 b.2 d.1 d.2 := by unfold dt crs; grind
      rw [h5, h6, Int.zero_mul, Int.zero_mul] at e1
      have hD := dt_self_pos (d_ne hab)
      rcases Int.mul_eq_zero.1 (show crs c.1 c.2 d.1 d.2 a.1 a.2 * dt a.1 a.2 b.1 b.2 b.1 b.2 = 0 from e1) with h | h <;> omega
  · unfold hasP at h; rw [h]; simp
  · unfold hasP at h; rw [h]; simp
  · -- all in one line
    have hd := d_ne hab
    have hd' := d_ne hcd
    obtain ⟨q1, q2, q3⟩ := (has_along hd).1 h1
    obtain ⟨p1, p2, p3⟩ := (has_along hd').1 h2
    have w := weighD q1 c d
    have hD := dt_self_pos hd
    have hD' := dt_self_pos hd'
    by_cases i1 : 0 ≤ dt c.1 c.2 d.1 d.2 a.1 a.2 ∧ dt c.1 c.2 d.1 d.2 a.1 a.2 ≤ dt c.1 c.2 d.1 d.2 d.1 d.2
    · have := (has_along hd').2 ⟨h3, i1.1, i1.2⟩; rw [this]; simp
    by_cases i2 : 0 ≤ dt c.1 c.2 d.1 d.2 b.1 b.2 ∧ dt c.1 c.2 d.1 d.2 b.1 b.2 ≤ dt c.1 c.2 d.1 d.2 d.1 d.2
    · have := (has_along hd').2 ⟨h4, i2.1, i2.2⟩; rw [this]; simp
    have hc : hasC a.1 a.2 b.1 b.2 c.1 c.2 = true := by
      rw [hasC_iff]
      constructor
      · have e1 : crs a.1 a.2 b.1 b.2 c.1 c.2 * dt c.1 c.2 d.1 d.2 d.1 d.2 = crs c.1 c.2 d.1 d.2 b.1 b.2 * dt c.1 c.2 d.1 d.2 a.1 a.2 - crs c.1 c.2 d.1 d.2 a.1 a.2 * dt c.1 c.2 d.1 d.2 b.1 b.2 := by unfold dt crs; grind
        rw [h3, h4, Int.zero_mul, Int.zero_mul] at e1
        rcases Int.mul_eq_zero.1 (show crs a.1 a.2 b.1 b.2 c.1 c.2 * dt c.1 c.2 d.1 d.2 d.1 d.2 = 0 from e1) with h | h
        · exact h
        · omega
      · have e1 : dt c.1 c.2 a.1 a.2 b.1 b.2 * dt c.1 c.2 d.1 d.2 d.1 d.2 = dt c.1 c.2 d.1 d.2 a.1 a.2 * dt c.1 c.2 d.1 d.2 b.1 b.2 + crs c.1 c.2 d.1 d.2 a.1 a.2 * crs c.1 c.2 d.1 d.2 b.1 b.2 := by unfold dt crs; grind
        rw [h3, Int.zero_mul, Int.add_zero] at e1
        have opp : dt c.1 c.2 d.1 d.2 a.1 a.2 * dt c.1 c.2 d.1 d.2 b.1 b.2 ≤ 0 := by
          exact opp_of (s := dt a.1 a.2 b.1 b.2 b.1 b.2 - dt a.1 a.2 b.1 b.2 q.1 q.2) (t := dt a.1 a.2 b.1 b.2 q.1 q.2) (by omega) q2 (by omega) (by rw [← w]; congr 1; omega) p2 p3 i1 i2
        rcases Int.lt_or_le 0 (dt c.1 c.2 a.1 a.2 b.1 b.2) with h | h
        · have := Int.mul_pos h hD'; omega
        · exact h
    rw [hc]; simp
/-- What meets a part meets the whole. -/
theorem meet_sub {a b c d q : P2} (hne : a ≠ b) (hcd : c ≠ d) (hq : hasP a b q = true) (hb : q ≠ b) (h : meetP q b c d = true) : meetP a b c d = true := by
  have hd := d_ne hne
  have hqb := d_ne hb
  have hk := has_end_dir hd hq hqb
  obtain ⟨q1, q2, q3⟩ := (has_along hd).1 hq
  have hD := dt_self_pos hd
  have sub : ∀ x y, hasC q.1 q.2 b.1 b.2 x y = true → hasC a.1 a.2 b.1 b.2 x y = true := by
    intro x y hx
    obtain ⟨x1, x2, x3⟩ := (has_along hqb).1 hx
    have e : ∀ x y, crs q.1 q.2 b.1 b.2 x y * dt a.1 a.2 b.1 b.2 b.1 b.2 = (dt a.1 a.2 b.1 b.2 b.1 b.2 - dt a.1 a.2 b.1 b.2 q.1 q.2) * crs a.1 a.2 b.1 b.2 x y := by intro x y; unfold dt crs at *; grind
    have e1 := e x y
    rw [x1, Int.zero_mul] at e1
    have c0 : crs a.1 a.2 b.1 b.2 x y = 0 := by
      rcases Int.mul_eq_zero.1 e1.symm with h | h
      · omega
      · exact h
    have e2 : dt q.1 q.2 b.1 b.2 x y * dt a.1 a.2 b.1 b.2 b.1 b.2 = (dt a.1 a.2 b.1 b.2 b.1 b.2 - dt a.1 a.2 b.1 b.2 q.1 q.2) * (dt a.1 a.2 b.1 b.2 x y - dt a.1 a.2 b.1 b.2 q.1 q.2) := by unfold dt crs at *; grind
    have e3 : dt q.1 q.2 b.1 b.2 b.1 b.2 * dt a.1 a.2 b.1 b.2 b.1 b.2 = (dt a.1 a.2 b.1 b.2 b.1 b.2 - dt a.1 a.2 b.1 b.2 q.1 q.2) * (dt a.1 a.2 b.1 b.2 b.1 b.2 - dt a.1 a.2 b.1 b.2 q.1 q.2) := by unfold dt crs at *; grind
    refine (has_along hd).2 ⟨c0, ?_, ?_⟩
    · have t := Int.mul_nonneg x2 (show 0 ≤ dt a.1 a.2 b.1 b.2 b.1 b.2 by omega)
      rcases Int.lt_or_le (dt a.1 a.2 b.1 b.2 x y - dt a.1 a.2 b.1 b.2 q.1 q.2) 0 with h | h
      · have := Int.mul_neg_of_pos_of_neg hk h; omega
      · omega
    · have t := Int.mul_le_mul_of_nonneg_right x3 (show 0 ≤ dt a.1 a.2 b.1 b.2 b.1 b.2 by omega)
      rw [e2, e3] at t
      have := Int.le_of_mul_le_mul_left t hk
      omega
  unfold meetP at h
  rw [meet_alt0] at h
  simp only [Bool.or_eq_true, Bool.and_eq_true] at h
  rcases h with (((⟨h1, h2⟩ | h) | h) | h) | h
  · have s1 : splB a.1 a.2 b.1 b.2 c.1 c.2 d.1 d.2 = true := by
      have e : ∀ x y, crs q.1 q.2 b.1 b.2 x y * dt a.1 a.2 b.1 b.2 b.1 b.2 = (dt a.1 a.2 b.1 b.2 b.1 b.2 - dt a.1 a.2 b.1 b.2 q.1 q.2) * crs a.1 a.2 b.1 b.2 x y := by intro x y; unfold dt crs at *; grind
      have sg : ∀ x y, (0 < crs q.1 q.2 b.1 b.2 x y → 0 < crs a.1 a.2 b.1 b.2 x y) ∧ (crs q.1 q.2 b.1 b.2 x y < 0 → crs a.1 a.2 b.1 b.2 x y < 0) := by
        intro x y
        have := e x y
        constructor
        · intro hp
          rcases Int.lt_or_le 0 (crs a.1 a.2 b.1 b.2 x y) with h' | h'
          · exact h'
          · have t1 := Int.mul_pos hp hD
            have t2 := Int.mul_nonpos_of_nonneg_of_nonpos (show 0 ≤ dt a.1 a.2 b.1 b.2 b.1 b.2 - dt a.1 a.2 b.1 b.2 q.1 q.2 by omega) h'
            omega
        · intro hp
          rcases Int.lt_or_le (crs a.1 a.2 b.1 b.2 x y) 0 with h' | h'
          · exact h'
          · have t1 := Int.mul_neg_of_neg_of_pos hp hD
            have t2 := Int.mul_nonneg (show 0 ≤ dt a.1 a.2 b.1 b.2 b.1 b.2 - dt a.1 a.2 b.1 b.2 q.1 q.2 by omega) h'
            omega
      rw [spl_iff] at h1 ⊢
      rcases h1 with ⟨h1, h2⟩ | ⟨h1, h2⟩
      · exact .inl ⟨(sg _ _).2 h1, (sg _ _).1 h2⟩
      · exact .inr ⟨(sg _ _).1 h1, (sg _ _).2 h2⟩
    have s2 : splB c.1 c.2 d.1 d.2 a.1 a.2 b.1 b.2 = true := by
      -- q's side, times the whole, is a's and b's, weighed
      have e : crs c.1 c.2 d.1 d.2 q.1 q.2 * dt a.1 a.2 b.1 b.2 b.1 b.2 = crs c.1 c.2 d.1 d.2 a.1 a.2 * (dt a.1 a.2 b.1 b.2 b.1 b.2 - dt a.1 a.2 b.1 b.2 q.1 q.2) + crs c.1 c.2 d.1 d.2 b.1 b.2 * dt a.1 a.2 b.1 b.2 q.1 q.2 := by unfold dt crs at *; grind
      rw [spl_iff] at h2 ⊢
      rcases h2 with ⟨h1, h2⟩ | ⟨h1, h2⟩
      · left
        refine ⟨?_, h2⟩
        have t1 := Int.mul_neg_of_neg_of_pos h1 hD
        have t2 := Int.mul_nonneg (show 0 ≤ crs c.1 c.2 d.1 d.2 b.1 b.2 by omega) q2
        rcases Int.lt_or_le (crs c.1 c.2 d.1 d.2 a.1 a.2) 0 with h' | h'
        · exact h'
        · have := Int.mul_nonneg h' (show 0 ≤ dt a.1 a.2 b.1 b.2 b.1 b.2 - dt a.1 a.2 b.1 b.2 q.1 q.2 by omega); omega
      · right
        refine ⟨?_, h2⟩
        have t1 := Int.mul_pos h1 hD
        have t2 := Int.mul_nonpos_of_nonpos_of_nonneg (show crs c.1 c.2 d.1 d.2 b.1 b.2 ≤ 0 by omega) q2
        rcases Int.lt_or_le 0 (crs c.1 c.2 d.1 d.2 a.1 a.2) with h' | h'
        · exact h'
        · have := Int.mul_nonpos_of_nonpos_of_nonneg h' (show 0 ≤ dt a.1 a.2 b.1 b.2 b.1 b.2 - dt a.1 a.2 b.1 b.2 q.1 q.2 by omega); omega
    unfold meetP; rw [meet_alt0, s1, s2]; rfl
  · have := sub _ _ h; unfold meetP; rw [meet_alt0, this]; simp
  · have := sub _ _ h; unfold meetP; rw [meet_alt0, this]; simp
  · exact common_meet hne hcd hq h
  · unfold meetP; rw [meet_alt0, h]; simp
/-- No edge is a point. -/
def Edgy (l : List P2) : Prop := ∀ i, i < l.length → ptAt l i ≠ ptAt l (nxt l i)
theorem okV_edgy {l : List P2} (h : okV l = true) : Edgy l := fun i hi => sgP_ne (((okV_iff l).1 h).seg i hi)
/-- A point on a loop that does not meet another one is on the same side of it as its corners. -/
theorem edge_side {o h : List P2} {p : P2} (ho : Edgy o) (hh : Edgy h) (hm : apL o h = true) (hon : onL h p = true) : inI o p = inI o (ptAt h 0) ∧ onL o p = false := by
  have hs := apL_same hm
  obtain ⟨k, hk, hk2⟩ := (onL_iff h p).1 hon
  have hn : nxt h k < h.length := nxt_lt (by omega)
  by_cases e : p = ptAt h (nxt h k)
  · rw [e]; exact hs _ hn
  · have hw := inI_way (l := o) (p := p) (q := ptAt h (nxt h k)) (fun j hj => by
      rw [Bool.eq_false_iff]
      intro hc
      rw [meetP_comm] at hc
      have := meet_sub (hh k hk) (ho j hj) hk2 e hc
      rw [meetP_comm, (apL_iff o h).1 hm j hj k hk] at this
      cases this)
    exact ⟨hw.1.trans (hs _ hn).1, hw.2.1⟩
theorem on_side {o h : List P2} {p : P2} (ho : okV o = true) (hh : okV h = true) (hm : apL o h = true) (hon : onL h p = true) : inI o p = inI o (ptAt h 0) ∧ onL o p = false :=
  edge_side (okV_edgy ho) (okV_edgy hh) hm hon
/-- Where a point is, seen from a plate. -/
def plI (o : List P2) (hs : List (List P2)) (p : P2) : Int := hs.foldl (fun s h => min s (-(inI h p))) (inI o p)
def plInV (o : List P2) (hs : List (List P2)) (p : P2) : Int := if plV o hs && ptB p.1 p.2 then plI o hs p else -1
theorem inI_3 (l : List P2) (p : P2) : inI l p = 0 ∨ inI l p = 1 ∨ inI l p = -1 := by
  cases h : onL l p
  · right; exact inI_pm h
  · left; exact (inI_zero l p).2 h
theorem plI_snoc (o : List P2) (hs : List (List P2)) (h p) : plI o (hs ++ [h]) p = min (plI o hs p) (-(inI h p)) := by unfold plI; rw [List.foldl_append]; rfl
theorem plI_cons (o : List P2) (hs : List (List P2)) (h p) : plI o (hs ++ [h]) p = min (plI o hs p) (-(inI h p)) := plI_snoc o hs h p
theorem plI_one {o : List P2} {hs : List (List P2)} (hv : plV o hs = true) (p : P2) : plI o hs p = 1 ↔ inI o p = 1 ∧ ∀ h ∈ hs, inI h p = -1 := by
  match hs, hv with
  | [], _ => simp [plI]
  | [a], _ => have := inI_3 o p; have := inI_3 a p; simp [plI]; omega
  | [a, b], _ => have := inI_3 o p; have := inI_3 a p; have := inI_3 b p; simp [plI]; omega
  | _ :: _ :: _ :: _, h => simp [plV] at h
theorem plI_zero {o : List P2} {hs : List (List P2)} (hv : plV o hs = true) {p : P2} : plI o hs p = 0 ↔ onL o p = true ∨ ∃ h ∈ hs, onL h p = true := by
  have arO : ∀ a, okV o = true → okV a = true → arB o a = true → (onL o p = true → inI a p = -1) ∧ (onL a p = true → inI o p = 1) := by
    intro a h1 h2 h3
    rw [arB_iff] at h3
    have z1 := okV_pos h1
    have z2 := okV_pos h2
    constructor
    · intro hon
      rw [(on_side h2 h1 (by rw [apL_comm]; exact h3.1) hon).1]
      exact not_both (by omega) (by omega) h3.1 h3.2 0 (by omega)
    · intro hon; rw [(on_side h1 h2 h3.1 hon).1]; exact h3.2
  have beO : ∀ a b, okV a = true → okV b = true → beB a b = true → (onL a p = true → inI b p = -1) ∧ (onL b p = true → inI a p = -1) := by
    intro a b h1 h2 h3
    rw [beB_iff] at h3
    exact ⟨fun hon => by rw [(on_side h2 h1 (by rw [apL_comm]; exact h3.1) hon).1]; exact h3.2.2, fun hon => by rw [(on_side h1 h2 h3.1 hon).1]; exact h3.2.1⟩
  match hs, hv with
  | [], _ => simp [plI, inI_zero]
  | [a], hv =>
    simp only [plV, Bool.and_eq_true] at hv
    have t := arO a hv.1.1 hv.1.2 hv.2
    have e1 := inI_3 o p
    have e2 := inI_3 a p
    have z1 := inI_zero o p
    have z2 := inI_zero a p
    simp only [plI, List.foldl_cons, List.foldl_nil, List.mem_cons, List.not_mem_nil, or_false, exists_eq_left]
    rw [← z1, ← z2] at t ⊢
    omega
  | [a, b], hv =>
    simp only [plV, Bool.and_eq_true] at hv
    obtain ⟨⟨⟨⟨⟨h1, h2⟩, h3⟩, h4⟩, h5⟩, h6⟩ := hv
    have t := arO a h1 h2 h4
    have u := arO b h1 h3 h5
    have v := beO a b h2 h3 h6
    have e1 := inI_3 o p
    have e2 := inI_3 a p
    have e3 := inI_3 b p
    have z1 := inI_zero o p
    have z2 := inI_zero a p
    have z3 := inI_zero b p
    simp only [plI, List.foldl_cons, List.foldl_nil, List.mem_cons, List.not_mem_nil, or_false, exists_eq_or_imp, exists_eq_left]
    rw [← z1, ← z2] at t
    rw [← z1, ← z3] at u
    rw [← z2, ← z3] at v
    rw [← z1, ← z2, ← z3]
    omega
  | _ :: _ :: _ :: _, h => simp [plV] at h
/-- Corners of a hole are in the outer loop, and beyond the other hole. -/
theorem hole_in {o : List P2} {hs : List (List P2)} (h : PlL o hs) {i : Nat} (hi : i < hs.length) {k : Nat} (hk : k < (hs[i]?.getD []).length) : inI o (ptAt (hs[i]?.getD []) k) = 1 := by
  have hm : hs[i]?.getD [] ∈ hs := by rw [List.getElem?_eq_getElem hi, Option.getD_some]; exact List.getElem_mem hi
  have := (arB_iff _ _).1 (h.ar _ hm)
  rw [(apL_same this.1 k hk).1]; exact this.2
theorem hole_out {o : List P2} {hs : List (List P2)} (h : PlL o hs) {i j : Nat} (hi : i < hs.length) (hj : j < hs.length) (hij : i ≠ j) {k : Nat} (hk : k < (hs[i]?.getD []).length) : inI (hs[j]?.getD []) (ptAt (hs[i]?.getD []) k) = -1 := by
  rcases Nat.lt_or_gt_of_ne hij with h1 | h1
  · have := (beB_iff _ _).1 (h.be i j h1 hj)
    rw [(apL_same (show apL (hs[j]?.getD []) (hs[i]?.getD []) = true by rw [apL_comm]; exact this.1) k hk).1]; exact this.2.2
  · have := (beB_iff _ _).1 (h.be j i h1 hi)
    rw [(apL_same this.1 k hk).1]; exact this.2.1
theorem apL_self {l : List P2} (h : 0 < l.length) : apL l l = false := by
  rw [Bool.eq_false_iff]
  intro hc
  have := (apL_iff l l).1 hc 0 h 0 h
  unfold meetP at this
  rw [meet_self] at this
  cases this
theorem plV_self {o : List P2} (h : okV o = true) : plV o [o] = false := by
  have := okV_pos h
  simp only [plV, arB]; rw [apL_self (by omega)]; simp
theorem plV_twice {o h : List P2} (hh : okV h = true) : plV o [h, h] = false := by
  have := okV_pos hh
  simp only [plV, beB]; rw [apL_self (by omega)]; simp
theorem plV_turned {o h : List P2} (ho : okV o = true) (hh : okV h = true) (ha : arB o h = true) : plV h [o] = false := by
  have z1 := okV_pos ho
  have z2 := okV_pos hh
  rw [arB_iff] at ha
  have := not_both (by omega) (by omega) ha.1 ha.2 0 (by omega)
  simp only [plV, arB]; rw [this]; simp
end Go.Proofs.YtfnhbdanfnpdeaaDoor
