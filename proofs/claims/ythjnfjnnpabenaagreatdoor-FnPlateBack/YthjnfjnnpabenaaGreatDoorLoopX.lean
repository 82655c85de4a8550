/-
  OUR OWN TEXT. Who crosses no edge of a loop stays where one is; where a loop's own points are; beyond all of it. No program stands in it.
-/
import Derived.Test.YthjnfjnnpabenaaGreatDoorLoopS
namespace Go.Proofs.YthjnfjnnpabenaaGreatDoor

/-- To the right of the way from p up to q, at its height. -/
def rgt (p q v : P2) : Int := b2i (decide (p.2 < v.2) && decide (v.2 ≤ q.2) && decide (crs p.1 p.2 q.1 q.2 v.1 v.2 < 0))
theorem crs_first (a b p q : P2) : crs p.1 p.2 q.1 q.2 a.1 a.2 * (b.2 - a.2) = crs a.1 a.2 b.1 b.2 q.1 q.2 * (p.2 - a.2) - crs a.1 a.2 b.1 b.2 p.1 p.2 * (q.2 - a.2) := by unfold crs; grind
theorem crs_last (a b p q : P2) : crs p.1 p.2 q.1 q.2 b.1 b.2 * (b.2 - a.2) = crs a.1 a.2 b.1 b.2 q.1 q.2 * (p.2 - b.2) - crs a.1 a.2 b.1 b.2 p.1 p.2 * (q.2 - b.2) := by unfold crs; grind
theorem meet_alt0 (ax ay bx b_y cx cy ex ey : Int) : meetC ax ay bx b_y cx cy ex ey = (splB ax ay bx b_y cx cy ex ey && splB cx cy ex ey ax ay bx b_y || hasC ax ay bx b_y cx cy || hasC ax ay bx b_y ex ey || hasC cx cy ex ey ax ay || hasC cx cy ex ey bx b_y) := by
  unfold meetC endB
  cases splB ax ay bx b_y cx cy ex ey <;> cases splB cx cy ex ey ax ay bx b_y <;> cases hasC ax ay bx b_y cx cy <;> cases hasC ax ay bx b_y ex ey <;> cases hasC cx cy ex ey ax ay <;> cases hasC cx cy ex ey bx b_y <;> rfl
theorem meet_false {a b c d : P2} (h : meetP a b c d = false) : hasP a b c = false ∧ hasP a b d = false ∧ hasP c d a = false ∧ hasP c d b = false ∧ (splB a.1 a.2 b.1 b.2 c.1 c.2 d.1 d.2 && splB c.1 c.2 d.1 d.2 a.1 a.2 b.1 b.2) = false := by
  unfold meetP at h; rw [meet_alt0] at h
  simp only [Bool.or_eq_false_iff] at h
  obtain ⟨⟨⟨⟨h1, h2⟩, h3⟩, h4⟩, h5⟩ := h
  exact ⟨h2, h3, h4, h5, h1⟩
theorem mul_pos_of {x y : Int} (h : 0 < x * y) (hy : 0 < y) : 0 < x := by
  rcases Int.lt_or_le 0 x with h1 | h1
  · exact h1
  · have := Int.mul_nonpos_of_nonpos_of_nonneg h1 (Int.le_of_lt hy); omega
theorem mul_neg_of {x y : Int} (h : x * y < 0) (hy : 0 < y) : x < 0 := by
  rcases Int.lt_or_le x 0 with h1 | h1
  · exact h1
  · have := Int.mul_nonneg h1 (Int.le_of_lt hy); omega
theorem mul_pos_of' {x y : Int} (h : 0 < x * y) (hy : y < 0) : x < 0 := by
  rcases Int.lt_or_le x 0 with h1 | h1
  · exact h1
  · have := Int.mul_nonpos_of_nonneg_of_nonpos h1 (Int.le_of_lt hy); omega
theorem mul_neg_of' {x y : Int} (h : x * y < 0) (hy : y < 0) : 0 < x := by
  rcases Int.lt_or_le 0 x with h1 | h1
  · exact h1
  · have := Int.mul_nonneg_of_nonpos_of_nonpos h1 (Int.le_of_lt hy); omega
/-- The one that is within the heights of the other: both of its ends are to the same side of that. -/
theorem same_side {a b p q : P2} (h1 : a.2 ≤ p.2) (h2 : p.2 ≤ q.2) (h3 : q.2 < b.2) (hm : meetP a b p q = false) :
    (0 < crs a.1 a.2 b.1 b.2 p.1 p.2 ∧ 0 < crs a.1 a.2 b.1 b.2 q.1 q.2) ∨ (crs a.1 a.2 b.1 b.2 p.1 p.2 < 0 ∧ crs a.1 a.2 b.1 b.2 q.1 q.2 < 0) := by
  obtain ⟨m1, m2, m3, m4, m5⟩ := meet_false hm
  have n1 : crs a.1 a.2 b.1 b.2 p.1 p.2 ≠ 0 := fun e => by have := has_of_between e h1 (by omega) (by omega); unfold hasP at m1; rw [this] at m1; cases m1
  have n2 : crs a.1 a.2 b.1 b.2 q.1 q.2 ≠ 0 := fun e => by have := has_of_between e (by omega) (by omega) (by omega); unfold hasP at m2; rw [this] at m2; cases m2
  have e1 := crs_first a b p q
  have e2 := crs_last a b p q
  have e3 : crs p.1 p.2 q.1 q.2 a.1 a.2 = 0 → p.2 = q.2 → p.2 = a.2 → dt a.1 a.2 p.1 p.2 q.1 q.2 * ((b.2 - a.2) * (b.2 - a.2)) = crs a.1 a.2 b.1 b.2 p.1 p.2 * crs a.1 a.2 b.1 b.2 q.1 q.2 := fun _ k1 k2 => by
    unfold dt crs; rw [← k1, k2]; grind
  have hd : 0 < b.2 - a.2 := by omega
  generalize hsp : crs a.1 a.2 b.1 b.2 p.1 p.2 = sp at *
  generalize hsq : crs a.1 a.2 b.1 b.2 q.1 q.2 = sq at *
  generalize hta : crs p.1 p.2 q.1 q.2 a.1 a.2 = ta at *
  generalize htb : crs p.1 p.2 q.1 q.2 b.1 b.2 = tb at *
  have fin : ∀ (x1 : (sp < 0 ∧ 0 < sq) ∨ (0 < sp ∧ sq < 0)) (x2 : (ta < 0 ∧ 0 < tb) ∨ (0 < ta ∧ tb < 0)), False := fun x1 x2 => by
    have k1 : splB a.1 a.2 b.1 b.2 p.1 p.2 q.1 q.2 = true := by rw [spl_iff, hsp, hsq]; exact x1
    have k2 : splB p.1 p.2 q.1 q.2 a.1 a.2 b.1 b.2 = true := by rw [spl_iff, hta, htb]; exact x2
    rw [k1, k2] at m5; cases m5
  have on : ta = 0 → p.2 = q.2 → p.2 = a.2 → sp * sq < 0 → False := fun k0 k1 k2 k3 => by
    have := e3 k0 k1 k2
    have : dt a.1 a.2 p.1 p.2 q.1 q.2 ≤ 0 := by
      rcases Int.lt_or_le 0 (dt a.1 a.2 p.1 p.2 q.1 q.2) with h | h
      · have := Int.mul_pos h (Int.mul_pos hd hd); omega
      · exact h
    have : hasP p q a = true := by unfold hasP; rw [hasC_iff]; exact ⟨by rw [hta]; exact k0, this⟩
    rw [this] at m3; cases m3
  rcases Int.lt_or_gt_of_ne n1 with s1 | s1 <;> rcases Int.lt_or_gt_of_ne n2 with s2 | s2
  · exact .inr ⟨s1, s2⟩
  · exfalso
    have p1 : 0 ≤ sq * (p.2 - a.2) := Int.mul_nonneg (by omega) (by omega)
    have p2 : sp * (q.2 - a.2) ≤ 0 := Int.mul_nonpos_of_nonpos_of_nonneg (by omega) (by omega)
    have p3 : sq * (p.2 - b.2) < 0 := Int.mul_neg_of_pos_of_neg s2 (by omega)
    have p4 : 0 < sp * (q.2 - b.2) := Int.mul_pos_of_neg_of_neg s1 (by omega)
    have tb' : tb < 0 := mul_neg_of (by omega) hd
    rcases Int.lt_or_le 0 ta with h | h
    · exact fin (.inl ⟨s1, s2⟩) (.inr ⟨h, tb'⟩)
    · have h0 : ta * (b.2 - a.2) ≤ 0 := Int.mul_nonpos_of_nonpos_of_nonneg h (by omega)
      have z1 : sq * (p.2 - a.2) = 0 := by omega
      have z2 : sp * (q.2 - a.2) = 0 := by omega
      have z3 : ta * (b.2 - a.2) = 0 := by omega
      have y1 : p.2 - a.2 = 0 := (Int.mul_eq_zero.1 z1).resolve_left n2
      have y2 : q.2 - a.2 = 0 := (Int.mul_eq_zero.1 z2).resolve_left n1
      have y3 : ta = 0 := (Int.mul_eq_zero.1 z3).resolve_right (by omega)
      exact on y3 (by omega) (by omega) (Int.mul_neg_of_neg_of_pos s1 s2)
  · exfalso
    have p1 : sq * (p.2 - a.2) ≤ 0 := Int.mul_nonpos_of_nonpos_of_nonneg (by omega) (by omega)
    have p2 : 0 ≤ sp * (q.2 - a.2) := Int.mul_nonneg (by omega) (by omega)
    have p3 : 0 < sq * (p.2 - b.2) := Int.mul_pos_of_neg_of_neg s2 (by omega)
    have p4 : sp * (q.2 - b.2) < 0 := Int.mul_neg_of_pos_of_neg s1 (by omega)
    have tb' : 0 < tb := mul_pos_of (by omega) hd
    rcases Int.lt_or_le ta 0 with h | h
    · exact fin (.inr ⟨s1, s2⟩) (.inl ⟨h, tb'⟩)
    · have h0 : 0 ≤ ta * (b.2 - a.2) := Int.mul_nonneg h (by omega)
      have z1 : sq * (p.2 - a.2) = 0 := by omega
      have z2 : sp * (q.2 - a.2) = 0 := by omega
      have z3 : ta * (b.2 - a.2) = 0 := by omega
      have y1 : p.2 - a.2 = 0 := (Int.mul_eq_zero.1 z1).resolve_left n2
      have y2 : q.2 - a.2 = 0 := (Int.mul_eq_zero.1 z2).resolve_left n1
      have y3 : ta = 0 := (Int.mul_eq_zero.1 z3).resolve_right (by omega)
      exact on y3 (by omega) (by omega) (Int.mul_neg_of_pos_of_neg s1 s2)
  · exact .inl ⟨s1, s2⟩
/-- One begins within the heights of the other and ends above: p is left of ab just if b is right of pq. -/
theorem cross_side {a b p q : P2} (h1 : a.2 ≤ p.2) (h2 : p.2 ≤ b.2) (h3 : b.2 ≤ q.2) (hab : a.2 < b.2) (hpq : p.2 < q.2) (hm : meetP a b p q = false) :
    (0 < crs a.1 a.2 b.1 b.2 p.1 p.2 ∧ crs p.1 p.2 q.1 q.2 b.1 b.2 < 0) ∨ (crs a.1 a.2 b.1 b.2 p.1 p.2 < 0 ∧ 0 < crs p.1 p.2 q.1 q.2 b.1 b.2) := by
  obtain ⟨m1, m2, m3, m4, m5⟩ := meet_false hm
  have n1 : crs a.1 a.2 b.1 b.2 p.1 p.2 ≠ 0 := fun e => by have := has_of_between e h1 (by omega) (by omega); unfold hasP at m1; rw [this] at m1; cases m1
  have n2 : crs p.1 p.2 q.1 q.2 b.1 b.2 ≠ 0 := fun e => by have := has_of_between e (by omega) (by omega) (by omega); unfold hasP at m4; rw [this] at m4; cases m4
  have e1 := crs_first a b p q
  have e2 := crs_last a b p q
  have hd : 0 < b.2 - a.2 := by omega
  generalize hsp : crs a.1 a.2 b.1 b.2 p.1 p.2 = sp at *
  generalize hsq : crs a.1 a.2 b.1 b.2 q.1 q.2 = sq at *
  generalize hta : crs p.1 p.2 q.1 q.2 a.1 a.2 = ta at *
  generalize htb : crs p.1 p.2 q.1 q.2 b.1 b.2 = tb at *
  have fin : ∀ (x1 : (sp < 0 ∧ 0 < sq) ∨ (0 < sp ∧ sq < 0)) (x2 : (ta < 0 ∧ 0 < tb) ∨ (0 < ta ∧ tb < 0)), False := fun x1 x2 => by
    have k1 : splB a.1 a.2 b.1 b.2 p.1 p.2 q.1 q.2 = true := by rw [spl_iff, hsp, hsq]; exact x1
    have k2 : splB p.1 p.2 q.1 q.2 a.1 a.2 b.1 b.2 = true := by rw [spl_iff, hta, htb]; exact x2
    rw [k1, k2] at m5; cases m5
  rcases Int.lt_or_gt_of_ne n1 with s1 | s1 <;> rcases Int.lt_or_gt_of_ne n2 with s2 | s2
  · exfalso
    have p0 : tb * (b.2 - a.2) < 0 := Int.mul_neg_of_neg_of_pos s2 hd
    rcases Int.lt_or_eq_of_le h2 with h2 | h2
    case inr =>
      have z1 : sq * (p.2 - b.2) = 0 := by rw [h2, Int.sub_self, Int.mul_zero]
      have z2 : sp * (q.2 - b.2) < 0 := Int.mul_neg_of_neg_of_pos s1 (by omega)
      omega
    have p1 : sp * (q.2 - b.2) ≤ 0 := Int.mul_nonpos_of_nonpos_of_nonneg (by omega) (by omega)
    have s3 : 0 < sq := mul_neg_of' (y := p.2 - b.2) (by omega) (by omega)
    have p2 : 0 ≤ sq * (p.2 - a.2) := Int.mul_nonneg (by omega) (by omega)
    have p3 : sp * (q.2 - a.2) < 0 := Int.mul_neg_of_neg_of_pos s1 (by omega)
    have s4 : 0 < ta := mul_pos_of (y := b.2 - a.2) (by omega) hd
    exact fin (.inl ⟨s1, s3⟩) (.inr ⟨s4, s2⟩)
  · exact .inr ⟨s1, s2⟩
  · exact .inl ⟨s1, s2⟩
  · exfalso
    have p0 : 0 < tb * (b.2 - a.2) := Int.mul_pos s2 hd
    rcases Int.lt_or_eq_of_le h2 with h2 | h2
    case inr =>
      have z1 : sq * (p.2 - b.2) = 0 := by rw [h2, Int.sub_self, Int.mul_zero]
      have z2 : 0 < sp * (q.2 - b.2) := Int.mul_pos s1 (by omega)
      omega
    have p1 : 0 ≤ sp * (q.2 - b.2) := Int.mul_nonneg (by omega) (by omega)
    have s3 : sq < 0 := mul_pos_of' (y := p.2 - b.2) (by omega) (by omega)
    have p2 : sq * (p.2 - a.2) ≤ 0 := Int.mul_nonpos_of_nonpos_of_nonneg (by omega) (by omega)
    have p3 : 0 < sp * (q.2 - a.2) := Int.mul_pos s1 (by omega)
    have s4 : ta < 0 := mul_neg_of (y := b.2 - a.2) (by omega) hd
    exact fin (.inr ⟨s1, s3⟩) (.inl ⟨s4, s2⟩)
def neP (p : P2) : P2 := (- p.1, - p.2)
theorem crs_ne (a b p : P2) : crs (neP a).1 (neP a).2 (neP b).1 (neP b).2 (neP p).1 (neP p).2 = crs a.1 a.2 b.1 b.2 p.1 p.2 := by unfold crs neP; grind
theorem dt_ne (a b p : P2) : dt (neP a).1 (neP a).2 (neP b).1 (neP b).2 (neP p).1 (neP p).2 = dt a.1 a.2 b.1 b.2 p.1 p.2 := by unfold dt neP; grind
theorem meetP_ne (a b c d : P2) : meetP (neP a) (neP b) (neP c) (neP d) = meetP a b c d := by
  unfold meetP meetC endB splB tn hasC; simp only [crs_ne, dt_ne]
/-- ONE EDGE AND A WAY THAT DOES NOT MEET IT. -/
theorem pass_way {a b p q : P2} (hpq : p.2 ≤ q.2) (hm : meetP a b p q = false) : (b2i (passP a b p) + b2i (passP a b q) + rgt p q a + rgt p q b) % 2 = 0 := by
  have wlog : ∀ a b : P2, a.2 ≤ b.2 → meetP a b p q = false → (b2i (passP a b p) + b2i (passP a b q) + rgt p q a + rgt p q b) % 2 = 0 := fun a b hle hm => by
    rw [pass_cases a b p hle, pass_cases a b q hle]
    unfold rgt
    by_cases c1 : b.2 ≤ p.2
    · have k1 : ¬ p.2 < b.2 := by omega
      have k2 : ¬ q.2 < b.2 := by omega
      have k3 : ¬ p.2 < a.2 := by omega
      simp [k1, k2, k3, b2i]
    by_cases c2 : q.2 < a.2
    · have k1 : ¬ a.2 ≤ p.2 := by omega
      have k2 : ¬ a.2 ≤ q.2 := by omega
      have k3 : ¬ b.2 ≤ q.2 := by omega
      simp [k1, k2, k3, b2i]
    have k1 : p.2 < b.2 := by omega
    have k2 : a.2 ≤ q.2 := by omega
    by_cases c3 : a.2 ≤ p.2
    · have k3 : ¬ p.2 < a.2 := by omega
      by_cases c4 : q.2 < b.2
      · have k4 : ¬ b.2 ≤ q.2 := by omega
        rcases same_side c3 hpq c4 hm with ⟨s1, s2⟩ | ⟨s1, s2⟩
        · simp [k1, k2, k3, k4, c3, c4, s1, s2, b2i]
        · have s3 : ¬ 0 < crs a.1 a.2 b.1 b.2 p.1 p.2 := by omega
          have s4 : ¬ 0 < crs a.1 a.2 b.1 b.2 q.1 q.2 := by omega
          simp [k3, k4, s3, s4, b2i]
      · have k4 : b.2 ≤ q.2 := by omega
        rcases cross_side c3 (by omega) k4 (by omega) (by omega) hm with ⟨s1, s2⟩ | ⟨s1, s2⟩
        · simp [k1, k3, k4, c3, c4, s1, s2, b2i]
        · have s3 : ¬ 0 < crs a.1 a.2 b.1 b.2 p.1 p.2 := by omega
          have s4 : ¬ crs p.1 p.2 q.1 q.2 b.1 b.2 < 0 := by omega
          simp [k3, c4, s3, s4, b2i]
    · have k3 : p.2 < a.2 := by omega
      by_cases c4 : q.2 < b.2
      · have k4 : ¬ b.2 ≤ q.2 := by omega
        have hc := cross_side (a := neP b) (b := neP a) (p := neP q) (q := neP p) (by simp [neP]; omega) (by simp [neP]; omega) (by simp [neP]; omega) (by simp [neP]; omega) (by simp [neP]; omega) (by rw [meetP_ne, meetP_back1, meetP_back2]; exact hm)
        rw [crs_ne, crs_ne, crs_back, crs_back p.1] at hc
        rcases hc with ⟨s1, s2⟩ | ⟨s1, s2⟩
        · have s3 : ¬ 0 < crs a.1 a.2 b.1 b.2 q.1 q.2 := by omega
          have s4 : ¬ crs p.1 p.2 q.1 q.2 a.1 a.2 < 0 := by omega
          simp [c3, k4, s3, s4, b2i]
        · have s3 : 0 < crs a.1 a.2 b.1 b.2 q.1 q.2 := by omega
          have s4 : crs p.1 p.2 q.1 q.2 a.1 a.2 < 0 := by omega
          simp [k2, k3, k4, c3, c4, s3, s4, b2i]
      · have k4 : b.2 ≤ q.2 := by omega
        have hs := same_side (a := neP q) (b := neP p) (p := neP b) (q := neP a) (by simp [neP]; omega) (by simp [neP]; omega) (by simp [neP]; omega) (by rw [meetP_ne, meetP_back1, meetP_back2, meetP_comm]; exact hm)
        rw [crs_ne, crs_ne, crs_back, crs_back p.1 p.2 q.1 q.2 a.1] at hs
        rcases hs with ⟨s1, s2⟩ | ⟨s1, s2⟩
        · have s3 : crs p.1 p.2 q.1 q.2 a.1 a.2 < 0 := by omega
          have s4 : crs p.1 p.2 q.1 q.2 b.1 b.2 < 0 := by omega
          simp [k1, k2, k3, k4, c3, c4, s3, s4, b2i]
        · have s3 : ¬ crs p.1 p.2 q.1 q.2 a.1 a.2 < 0 := by omega
          have s4 : ¬ crs p.1 p.2 q.1 q.2 b.1 b.2 < 0 := by omega
          simp [c3, c4, s3, s4, b2i]
  rcases Int.le_total a.2 b.2 with hle | hle
  · exact wlog a b hle hm
  · have := wlog b a hle (by rw [meetP_back1]; exact hm)
    rw [passP_back a b p, passP_back a b q] at this
    omega
/-- Who meets no edge stays where one is. -/
theorem inI_way {l : List P2} {p q : P2} (h : ∀ i, i < l.length → meetP (ptAt l i) (ptAt l (nxt l i)) p q = false) : inI l p = inI l q ∧ onL l p = false ∧ onL l q = false := by
  have o1 : onL l p = false := by
    rw [← Bool.not_eq_true, onL_iff]; rintro ⟨i, hi, e⟩
    have := (meet_false (h i hi)).1; rw [e] at this; cases this
  have o2 : onL l q = false := by
    rw [← Bool.not_eq_true, onL_iff]; rintro ⟨i, hi, e⟩
    have := (meet_false (h i hi)).2.1; rw [e] at this; cases this
  refine ⟨inI_of (o1.trans o2.symm) (fun _ => ?_), o1, o2⟩
  rcases Int.le_total p.2 q.2 with hle | hle
  · exact sumE_even (g := rgt p q) fun i hi => pass_way hle (h i hi)
  · rw [Int.add_comm]
    exact sumE_even (g := rgt q p) fun i hi => pass_way hle (by rw [meetP_back2]; exact h i hi)
theorem inI_pm {l : List P2} {p : P2} (h : onL l p = false) : inI l p = 1 ∨ inI l p = -1 := by
  rw [inI_eq, h]; simp only [Bool.false_eq_true, if_false]; split
  · exact .inr rfl
  · exact .inl rfl
theorem inI_zero (l : List P2) (p : P2) : inI l p = 0 ↔ onL l p = true := by
  cases h : onL l p
  · rcases inI_pm h with e | e <;> rw [e] <;> simp
  · rw [inI_eq, h]; simp

/-! ### Its own points; beyond -/
theorem onL_corner {l : List P2} {i : Nat} (hi : i < l.length) : onL l (ptAt l i) = true := (onL_iff _ _).2 ⟨i, hi, hasP_first _ _⟩
theorem inI_none {l : List P2} {p : P2} (h0 : onL l p = false) (h : (cntP l p) % 2 = 0) : inI l p = -1 := by rw [inI_eq, h0]; simp [h]
theorem sumE_zero {f : P2 → P2 → Int} {l : List P2} (h : ∀ i, i < l.length → f (ptAt l i) (ptAt l (nxt l i)) = 0) : sumE f l = 0 := by
  have : ∀ n, n ≤ l.length → sumF (fun i => f (ptAt l i) (ptAt l (nxt l i))) n = 0 := fun n => by
    induction n with
    | zero => intro _; rfl
    | succ n ih => intro hn; simp only [sumF]; rw [ih (by omega), h n (by omega)]; rfl
  exact this _ (Nat.le_refl _)
theorem pass_right {a b p : P2} (h1 : a.1 < p.1) (h2 : b.1 < p.1) : passP a b p = false := by
  have wlog : ∀ a b : P2, a.2 ≤ b.2 → a.1 < p.1 → b.1 < p.1 → passP a b p = false := fun a b hle h1 h2 => by
    rw [pass_cases a b p hle, ← Bool.not_eq_true]
    simp only [Bool.and_eq_true, decide_eq_true_eq]
    rintro ⟨⟨k1, k2⟩, k3⟩
    have hr := crs_rel a b p
    have q1 : (a.1 - p.1) * (b.2 - p.2) < 0 := Int.mul_neg_of_neg_of_pos (by omega) (by omega)
    have q2 : 0 ≤ (b.1 - p.1) * (a.2 - p.2) := Int.mul_nonneg_of_nonpos_of_nonpos (by omega) (by omega)
    omega
  rcases Int.le_total a.2 b.2 with hle | hle
  · exact wlog a b hle h1 h2
  · rw [← passP_back]; exact wlog b a hle h2 h1
theorem has_box {a b p : P2} (h : hasP a b p = true) : (min a.1 b.1 ≤ p.1 ∧ p.1 ≤ max a.1 b.1) ∧ (min a.2 b.2 ≤ p.2 ∧ p.2 ≤ max a.2 b.2) := by
  unfold hasP at h; rw [hasC_iff] at h
  obtain ⟨hc, hd⟩ := h
  unfold crs at hc; unfold dt at hd
  generalize a.1 = ax at *; generalize a.2 = ay at *; generalize b.1 = bx at *; generalize b.2 = b_y at *; generalize p.1 = px at *; generalize p.2 = py at *
  have hx : (ax - px) * (bx - px) ≤ 0 ∧ (ay - py) * (b_y - py) ≤ 0 := by
    have e : (ax - px) * (b_y - py) = (ay - py) * (bx - px) := by grind
    have e2 : ((ax - px) * (bx - px)) * ((ay - py) * (b_y - py)) = ((ax - px) * (b_y - py)) * ((ax - px) * (b_y - py)) := by grind
    have e3 := sq_nonneg ((ax - px) * (b_y - py))
    rcases Int.lt_or_le 0 ((ax - px) * (bx - px)) with h1 | h1
    · exfalso
      rcases Int.lt_or_le 0 ((ay - py) * (b_y - py)) with h2 | h2
      · omega
      · have : ((ax - px) * (bx - px)) * ((ay - py) * (b_y - py)) ≤ 0 := Int.mul_nonpos_of_nonneg_of_nonpos (by omega) h2
        have z : (ay - py) * (b_y - py) = 0 := by
          rcases Int.lt_or_eq_of_le h2 with h3 | h3
          · have := Int.mul_neg_of_pos_of_neg h1 h3; omega
          · exact h3
        omega
    · rcases Int.lt_or_le 0 ((ay - py) * (b_y - py)) with h2 | h2
      · exfalso
        have : ((ax - px) * (bx - px)) * ((ay - py) * (b_y - py)) ≤ 0 := Int.mul_nonpos_of_nonpos_of_nonneg h1 (by omega)
        have z : (ax - px) * (bx - px) = 0 := by
          rcases Int.lt_or_eq_of_le h1 with h3 | h3
          · have := Int.mul_neg_of_neg_of_pos h3 h2; omega
          · exact h3
        omega
      · exact ⟨h1, h2⟩
  have bet : ∀ x y z : Int, (x - z) * (y - z) ≤ 0 → min x y ≤ z ∧ z ≤ max x y := fun x y z h => by
    rcases Int.lt_or_le z x with h1 | h1 <;> rcases Int.lt_or_le z y with h2 | h2
    · have := Int.mul_pos (a := x - z) (b := y - z) (by omega) (by omega); omega
    · omega
    · omega
    · rcases Int.lt_or_eq_of_le h1 with h3 | h3
      · rcases Int.lt_or_eq_of_le h2 with h4 | h4
        · have := Int.mul_pos_of_neg_of_neg (a := x - z) (b := y - z) (by omega) (by omega); omega
        · omega
      · omega
  exact ⟨bet _ _ _ hx.1, bet _ _ _ hx.2⟩
/-- Beyond all points one is beyond. -/
theorem inI_beyond {l : List P2} {p : P2} (h : (∀ i, i < l.length → p.1 < (ptAt l i).1) ∨ (∀ i, i < l.length → (ptAt l i).1 < p.1) ∨ (∀ i, i < l.length → p.2 < (ptAt l i).2) ∨ (∀ i, i < l.length → (ptAt l i).2 < p.2)) : inI l p = -1 := by
  have hn : ∀ i, i < l.length → nxt l i < l.length := fun i hi => nxt_lt (by omega)
  have h0 : onL l p = false := by
    rw [← Bool.not_eq_true, onL_iff]; rintro ⟨i, hi, e⟩
    have := has_box e
    rcases h with h | h | h | h <;> (have k1 := h i hi; have k2 := h _ (hn i hi); omega)
  refine inI_none h0 ?_
  rcases h with h | h | h | h
  · have e := sumE_even (l := l) (f := fun a b => b2i (passP a b p)) (f' := fun a b => b2i (passP (mirP a) (mirP b) (mirP p))) (g := fun a => b2i (decide (a.2 ≤ p.2))) fun i hi => by
      have h1 := pass_side (onL_not h0 hi)
      have h2 := strad_tele (ptAt l i) (ptAt l (nxt l i)) p
      omega
    have z : sumE (fun a b => b2i (passP (mirP a) (mirP b) (mirP p))) l = 0 := sumE_zero fun i hi => by
      rw [pass_right (by simp only [mirP]; have := h i hi; omega) (by simp only [mirP]; have := h _ (hn i hi); omega)]; rfl
    unfold cntP; omega
  · have : cntP l p = 0 := sumE_zero fun i hi => by rw [pass_right (h i hi) (h _ (hn i hi))]; rfl
    omega
  · have : cntP l p = 0 := sumE_zero fun i hi => by
      have k1 := h i hi
      have k2 := h _ (hn i hi)
      have n1 : ¬ (ptAt l i).2 ≤ p.2 := by omega
      have n2 : ¬ (ptAt l (nxt l i)).2 ≤ p.2 := by omega
      unfold passP; split <;> simp [n1, n2, b2i]
    omega
  · have : cntP l p = 0 := sumE_zero fun i hi => by
      have k1 := h i hi
      have k2 := h _ (hn i hi)
      have n1 : ¬ p.2 < (ptAt l i).2 := by omega
      have n2 : ¬ p.2 < (ptAt l (nxt l i)).2 := by omega
      unfold passP; split <;> simp [n1, n2, b2i]
    omega
end Go.Proofs.YthjnfjnnpabenaaGreatDoor
