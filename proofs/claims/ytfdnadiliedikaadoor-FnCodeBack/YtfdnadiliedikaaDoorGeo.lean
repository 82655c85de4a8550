/-
  OUR OWN TEXT. Plain geometry of points and segments of the grid: turning, having a point, meeting, how far. No program stands in it.
-/
import Derived.Test.YtfdnadiliedikaaDoorFracMore
namespace Go.Proofs.YtfdnadiliedikaaDoor

def crs (ax ay bx b_y cx cy : Int) : Int := (bx - ax) * (cy - ay) - (b_y - ay) * (cx - ax)
def dt (ax ay bx b_y cx cy : Int) : Int := (bx - ax) * (cx - ax) + (b_y - ay) * (cy - ay)

theorem sq_nonneg (x : Int) : 0 ≤ x * x := by
  rcases Int.le_total 0 x with h | h
  · exact Int.mul_nonneg h h
  · exact Int.mul_nonneg_of_nonpos_of_nonpos h h
theorem sq2_zero {x y : Int} (h : x * x + y * y ≤ 0) : x = 0 ∧ y = 0 := by
  have h1 := sq_nonneg x
  have h2 := sq_nonneg y
  have e1 : x * x = 0 := by omega
  have e2 : y * y = 0 := by omega
  exact ⟨by rcases Int.mul_eq_zero.1 e1 with h | h <;> exact h, by rcases Int.mul_eq_zero.1 e2 with h | h <;> exact h⟩
theorem dt_self_nonneg (ax ay bx b_y : Int) : 0 ≤ dt ax ay bx b_y bx b_y := by
  have h1 := sq_nonneg (bx - ax)
  have h2 := sq_nonneg (b_y - ay)
  unfold dt; omega
theorem dt_self_pos {ax ay bx b_y : Int} (h : ¬ (ax = bx ∧ ay = b_y)) : 0 < dt ax ay bx b_y bx b_y := by
  rcases Int.lt_or_le 0 (dt ax ay bx b_y bx b_y) with h0 | h0
  · exact h0
  · unfold dt at h0
    have := sq2_zero h0
    omega
/-- |v|²|d|² = (v·d)² + (d×v)². -/
theorem lagr (ax ay bx b_y px py : Int) : dt ax ay px py px py * dt ax ay bx b_y bx b_y = dt ax ay bx b_y px py * dt ax ay bx b_y px py + crs ax ay bx b_y px py * crs ax ay bx b_y px py := by
  unfold dt crs; grind
/-- Seen from the other end. -/
theorem dt_back (ax ay bx b_y px py : Int) : dt bx b_y ax ay px py = dt ax ay bx b_y bx b_y - dt ax ay bx b_y px py := by
  unfold dt; grind
theorem dt_self_back (ax ay bx b_y : Int) : dt bx b_y ax ay ax ay = dt ax ay bx b_y bx b_y := by
  unfold dt; grind
theorem crs_back (ax ay bx b_y px py : Int) : crs bx b_y ax ay px py = - crs ax ay bx b_y px py := by
  unfold crs; grind
/-- Between the ends: seen from the point, or along the way. -/
theorem mid_eq (ax ay bx b_y px py : Int) (h : crs ax ay bx b_y px py = 0) : dt px py ax ay bx b_y * dt ax ay bx b_y bx b_y = dt ax ay bx b_y px py * (dt ax ay bx b_y px py - dt ax ay bx b_y bx b_y) := by
  unfold dt crs at *; grind
theorem mid_iff {ax ay bx b_y px py : Int} (h : crs ax ay bx b_y px py = 0) (hd : ¬ (ax = bx ∧ ay = b_y)) :
    dt px py ax ay bx b_y ≤ 0 ↔ 0 ≤ dt ax ay bx b_y px py ∧ dt ax ay bx b_y px py ≤ dt ax ay bx b_y bx b_y := by
  have hp := dt_self_pos hd
  have e := mid_eq ax ay bx b_y px py h
  generalize dt px py ax ay bx b_y = m at *
  generalize dt ax ay bx b_y px py = n at *
  generalize dt ax ay bx b_y bx b_y = d at *
  constructor
  · intro hm
    have h1 : m * d ≤ 0 := Int.mul_nonpos_of_nonpos_of_nonneg hm (by omega)
    rw [e] at h1
    constructor
    · rcases Int.lt_or_le n 0 with hn | hn
      · have := Int.mul_pos_of_neg_of_neg hn (show n - d < 0 by omega)
        omega
      · exact hn
    · rcases Int.lt_or_le d n with hn | hn
      · have := Int.mul_pos (show 0 < n by omega) (show 0 < n - d by omega)
        omega
      · exact hn
  · rintro ⟨h1, h2⟩
    rcases Int.lt_or_le 0 m with hm | hm
    · have h3 := Int.mul_pos hm hp
      have h4 := Int.mul_nonpos_of_nonneg_of_nonpos h1 (show n - d ≤ 0 by omega)
      omega
    · exact hm
/-- How far, not yet made simple. -/
def farR (ax ay bx b_y px py : Int) : Int × Int :=
  if dt ax ay bx b_y px py ≤ 0 then (dt ax ay px py px py, 1)
  else if dt bx b_y ax ay px py ≤ 0 then (dt bx b_y px py px py, 1)
  else (crs ax ay bx b_y px py * crs ax ay bx b_y px py, dt ax ay bx b_y bx b_y)
theorem farR_cases (ax ay bx b_y px py : Int) :
    (dt ax ay bx b_y px py ≤ 0 ∧ farR ax ay bx b_y px py = (dt ax ay px py px py, 1)) ∨
    (0 < dt ax ay bx b_y px py ∧ dt ax ay bx b_y bx b_y ≤ dt ax ay bx b_y px py ∧ farR ax ay bx b_y px py = (dt bx b_y px py px py, 1)) ∨
    (0 < dt ax ay bx b_y px py ∧ dt ax ay bx b_y px py < dt ax ay bx b_y bx b_y ∧ farR ax ay bx b_y px py = (crs ax ay bx b_y px py * crs ax ay bx b_y px py, dt ax ay bx b_y bx b_y)) := by
  have hb := dt_back ax ay bx b_y px py
  unfold farR
  by_cases h1 : dt ax ay bx b_y px py ≤ 0
  · exact .inl ⟨h1, if_pos h1⟩
  · rw [if_neg h1]
    by_cases h2 : dt bx b_y ax ay px py ≤ 0
    · exact .inr (.inl ⟨by omega, by omega, if_pos h2⟩)
    · exact .inr (.inr ⟨by omega, by omega, if_neg h2⟩)
theorem farR_pos {ax ay bx b_y : Int} (px py : Int) (hd : ¬ (ax = bx ∧ ay = b_y)) : 0 ≤ (farR ax ay bx b_y px py).1 ∧ 0 < (farR ax ay bx b_y px py).2 := by
  have hp := dt_self_pos hd
  rcases farR_cases ax ay bx b_y px py with ⟨_, e⟩ | ⟨_, _, e⟩ | ⟨_, _, e⟩ <;> rw [e]
  · exact ⟨dt_self_nonneg _ _ _ _, Int.one_pos⟩
  · exact ⟨dt_self_nonneg _ _ _ _, Int.one_pos⟩
  · exact ⟨sq_nonneg _, hp⟩
/-- The other way about. -/
theorem farR_back {ax ay bx b_y : Int} (px py : Int) (hd : ¬ (ax = bx ∧ ay = b_y)) : farR bx b_y ax ay px py = farR ax ay bx b_y px py := by
  have hp := dt_self_pos hd
  have hb := dt_back ax ay bx b_y px py
  have hc := crs_back ax ay bx b_y px py
  have hs := dt_self_back ax ay bx b_y
  have hcc : crs bx b_y ax ay px py * crs bx b_y ax ay px py = crs ax ay bx b_y px py * crs ax ay bx b_y px py := by rw [hc]; grind
  unfold farR
  rw [hcc, hs]
  by_cases h1 : dt ax ay bx b_y px py ≤ 0
  · rw [if_pos h1, if_neg (by omega), if_pos h1]
  · rw [if_neg h1, if_neg h1]
/-- As near as any point of the segment, in parts m of n. -/
theorem farR_le (ax ay bx b_y px py m n : Int) (h0 : 0 ≤ m) (h1 : m ≤ n) (hd : ¬ (ax = bx ∧ ay = b_y)) :
    (farR ax ay bx b_y px py).1 * (n * n) ≤ ((n * (px - ax) - m * (bx - ax)) * (n * (px - ax) - m * (bx - ax)) + (n * (py - ay) - m * (b_y - ay)) * (n * (py - ay) - m * (b_y - ay))) * (farR ax ay bx b_y px py).2 := by
  have hp := dt_self_pos hd
  have hnn : 0 ≤ n := by omega
  rcases farR_cases ax ay bx b_y px py with ⟨k, e⟩ | ⟨_, k, e⟩ | ⟨_, _, e⟩ <;> rw [e]
  · have t1 : 0 ≤ n * m * (- dt ax ay bx b_y px py) := Int.mul_nonneg (Int.mul_nonneg hnn h0) (by omega)
    have t2 : 0 ≤ m * m * dt ax ay bx b_y bx b_y := Int.mul_nonneg (sq_nonneg m) (by omega)
    have e1 : (n * (px - ax) - m * (bx - ax)) * (n * (px - ax) - m * (bx - ax)) + (n * (py - ay) - m * (b_y - ay)) * (n * (py - ay) - m * (b_y - ay)) = dt ax ay px py px py * (n * n) + 2 * (n * m * (- dt ax ay bx b_y px py)) + m * m * dt ax ay bx b_y bx b_y := by unfold dt; grind
    show dt ax ay px py px py * (n * n) ≤ _ * 1
    rw [e1]; omega
  · have t1 : 0 ≤ n * (n - m) * (dt ax ay bx b_y px py - dt ax ay bx b_y bx b_y) := Int.mul_nonneg (Int.mul_nonneg hnn (by omega)) (by omega)
    have t2 : 0 ≤ (n - m) * (n - m) * dt ax ay bx b_y bx b_y := Int.mul_nonneg (sq_nonneg _) (by omega)
    have e1 : (n * (px - ax) - m * (bx - ax)) * (n * (px - ax) - m * (bx - ax)) + (n * (py - ay) - m * (b_y - ay)) * (n * (py - ay) - m * (b_y - ay)) = dt bx b_y px py px py * (n * n) + 2 * (n * (n - m) * (dt ax ay bx b_y px py - dt ax ay bx b_y bx b_y)) + (n - m) * (n - m) * dt ax ay bx b_y bx b_y := by unfold dt; grind
    show dt bx b_y px py px py * (n * n) ≤ _ * 1
    rw [e1]; omega
  · have t1 := sq_nonneg (n * dt ax ay bx b_y px py - m * dt ax ay bx b_y bx b_y)
    have e1 : ((n * (px - ax) - m * (bx - ax)) * (n * (px - ax) - m * (bx - ax)) + (n * (py - ay) - m * (b_y - ay)) * (n * (py - ay) - m * (b_y - ay))) * dt ax ay bx b_y bx b_y = crs ax ay bx b_y px py * crs ax ay bx b_y px py * (n * n) + (n * dt ax ay bx b_y px py - m * dt ax ay bx b_y bx b_y) * (n * dt ax ay bx b_y px py - m * dt ax ay bx b_y bx b_y) := by unfold dt crs; grind
    show crs ax ay bx b_y px py * crs ax ay bx b_y px py * (n * n) ≤ _ * dt ax ay bx b_y bx b_y
    rw [e1]; omega
/-- Not farther than the first end. -/
theorem farR_first (ax ay bx b_y px py : Int) (hd : ¬ (ax = bx ∧ ay = b_y)) : (farR ax ay bx b_y px py).1 ≤ dt ax ay px py px py * (farR ax ay bx b_y px py).2 := by
  have h := farR_le ax ay bx b_y px py 0 1 (by decide) (by decide) hd
  unfold dt; grind
theorem farR_last (ax ay bx b_y px py : Int) (hd : ¬ (ax = bx ∧ ay = b_y)) : (farR ax ay bx b_y px py).1 ≤ dt bx b_y px py px py * (farR ax ay bx b_y px py).2 := by
  have h := farR_le ax ay bx b_y px py 1 1 (by decide) (by decide) hd
  unfold dt; grind
/-- Not farther than any point that the segment has. -/
theorem farR_on (ax ay bx b_y px py qx qy : Int) (hd : ¬ (ax = bx ∧ ay = b_y)) (hc : crs ax ay bx b_y qx qy = 0) (h0 : 0 ≤ dt ax ay bx b_y qx qy) (h1 : dt ax ay bx b_y qx qy ≤ dt ax ay bx b_y bx b_y) :
    (farR ax ay bx b_y px py).1 ≤ dt px py qx qy qx qy * (farR ax ay bx b_y px py).2 := by
  have hp := dt_self_pos hd
  have h := farR_le ax ay bx b_y px py _ _ h0 h1 hd
  have e1 : (dt ax ay bx b_y bx b_y * (px - ax) - dt ax ay bx b_y qx qy * (bx - ax)) * (dt ax ay bx b_y bx b_y * (px - ax) - dt ax ay bx b_y qx qy * (bx - ax)) + (dt ax ay bx b_y bx b_y * (py - ay) - dt ax ay bx b_y qx qy * (b_y - ay)) * (dt ax ay bx b_y bx b_y * (py - ay) - dt ax ay bx b_y qx qy * (b_y - ay)) = dt px py qx qy qx qy * (dt ax ay bx b_y bx b_y * dt ax ay bx b_y bx b_y) := by
    have x1 : dt ax ay bx b_y qx qy * (bx - ax) = dt ax ay bx b_y bx b_y * (qx - ax) := by unfold dt crs at *; grind
    have x2 : dt ax ay bx b_y qx qy * (b_y - ay) = dt ax ay bx b_y bx b_y * (qy - ay) := by unfold dt crs at *; grind
    rw [x1, x2]
    unfold dt; grind
  rw [e1] at h
  generalize dt ax ay bx b_y bx b_y = D at *
  have hDD : 0 < D * D := Int.mul_pos hp hp
  refine Int.le_of_mul_le_mul_left (a := D * D) ?_ hDD
  grind
/-- A longer one is not farther. -/
theorem farR_longer (ax ay bx b_y px py : Int) (hd : ¬ (ax = bx ∧ ay = b_y)) :
    (farR ax ay (2 * bx - ax) (2 * b_y - ay) px py).1 * (farR ax ay bx b_y px py).2 ≤ (farR ax ay bx b_y px py).1 * (farR ax ay (2 * bx - ax) (2 * b_y - ay) px py).2 := by
  have hd2 : ¬ (ax = 2 * bx - ax ∧ ay = 2 * b_y - ay) := by omega
  have hp := dt_self_pos hd
  have p2 := farR_pos px py hd2
  rcases farR_cases ax ay bx b_y px py with ⟨k, e⟩ | ⟨_, k, e⟩ | ⟨k, k2, e⟩ <;> rw [e]
  · have := farR_first ax ay (2 * bx - ax) (2 * b_y - ay) px py hd2
    show _ * 1 ≤ dt ax ay px py px py * _
    omega
  · have h := farR_le ax ay (2 * bx - ax) (2 * b_y - ay) px py 1 2 (by decide) (by decide) hd2
    have e1 : (2 * (px - ax) - 1 * (2 * bx - ax - ax)) * (2 * (px - ax) - 1 * (2 * bx - ax - ax)) + (2 * (py - ay) - 1 * (2 * b_y - ay - ay)) * (2 * (py - ay) - 1 * (2 * b_y - ay - ay)) = 4 * dt bx b_y px py px py := by unfold dt; grind
    rw [e1] at h
    show _ * 1 ≤ dt bx b_y px py px py * _
    generalize farR ax ay (2 * bx - ax) (2 * b_y - ay) px py = f at *
    have e2 : 4 * dt bx b_y px py px py * f.2 = 4 * (dt bx b_y px py px py * f.2) := by grind
    rw [e2] at h
    omega
  · have h := farR_le ax ay (2 * bx - ax) (2 * b_y - ay) px py (dt ax ay bx b_y px py) (2 * dt ax ay bx b_y bx b_y) (by omega) (by omega) hd2
    have e1 : (2 * dt ax ay bx b_y bx b_y * (px - ax) - dt ax ay bx b_y px py * (2 * bx - ax - ax)) * (2 * dt ax ay bx b_y bx b_y * (px - ax) - dt ax ay bx b_y px py * (2 * bx - ax - ax)) + (2 * dt ax ay bx b_y bx b_y * (py - ay) - dt ax ay bx b_y px py * (2 * b_y - ay - ay)) * (2 * dt ax ay bx b_y bx b_y * (py - ay) - dt ax ay bx b_y px py * (2 * b_y - ay - ay)) = 4 * dt ax ay bx b_y bx b_y * (crs ax ay bx b_y px py * crs ax ay bx b_y px py) := by unfold dt crs; grind
    rw [e1] at h
    show _ * dt ax ay bx b_y bx b_y ≤ crs ax ay bx b_y px py * crs ax ay bx b_y px py * _
    generalize farR ax ay (2 * bx - ax) (2 * b_y - ay) px py = f at *
    generalize crs ax ay bx b_y px py * crs ax ay bx b_y px py = C at *
    generalize dt ax ay bx b_y bx b_y = D at *
    refine Int.le_of_mul_le_mul_left (a := D) ?_ hp
    have e2 : f.1 * (2 * D * (2 * D)) = 4 * (D * (f.1 * D)) := by grind
    have e3 : 4 * D * C * f.2 = 4 * (D * (C * f.2)) := by grind
    rw [e2, e3] at h
    omega
/-- A place of the grid; a point; a segment. -/
def plB (n : Int) : Bool := decide (0 ≤ n ∧ n ≤ 9)
def ptB (x y : Int) : Bool := plB x && plB y
def sgB (ax ay bx b_y : Int) : Bool := ptB ax ay && ptB bx b_y && !(decide (ax = bx) && decide (ay = b_y))
theorem plB_iff (n : Int) : plB n = true ↔ 0 ≤ n ∧ n ≤ 9 := by simp [plB]
theorem plB_not (n : Int) : plB n = false ↔ n < 0 ∨ 9 < n := by simp [plB]; omega
theorem ptB_iff (x y : Int) : ptB x y = true ↔ 0 ≤ x ∧ x ≤ 9 ∧ 0 ≤ y ∧ y ≤ 9 := by simp [ptB, plB]; omega
theorem ptB_not (x y : Int) : ptB x y = false ↔ ¬ (0 ≤ x ∧ x ≤ 9 ∧ 0 ≤ y ∧ y ≤ 9) := by
  cases h : ptB x y
  · simp only [true_iff]; intro h'; rw [(ptB_iff x y).2 h'] at h; cases h
  · simp only [Bool.true_eq_false, false_iff]; exact fun h' => h' ((ptB_iff x y).1 h)
theorem sgB_iff (ax ay bx b_y : Int) : sgB ax ay bx b_y = true ↔ (0 ≤ ax ∧ ax ≤ 9 ∧ 0 ≤ ay ∧ ay ≤ 9) ∧ (0 ≤ bx ∧ bx ≤ 9 ∧ 0 ≤ b_y ∧ b_y ≤ 9) ∧ ¬ (ax = bx ∧ ay = b_y) := by
  unfold sgB
  rw [Bool.and_eq_true, Bool.and_eq_true, ptB_iff, ptB_iff]
  simp only [Bool.not_eq_true', Bool.and_eq_false_iff, decide_eq_false_iff_not]
  omega
theorem sgB_back (ax ay bx b_y : Int) : sgB bx b_y ax ay = sgB ax ay bx b_y := by
  rw [Bool.eq_iff_iff, sgB_iff, sgB_iff]; omega
theorem sgB_self (ax ay : Int) : sgB ax ay ax ay = false := by
  cases h : sgB ax ay ax ay
  · rfl
  · have := (sgB_iff _ _ _ _).1 h; omega
/-- Which way one turns. -/
def tn (ax ay bx b_y cx cy : Int) : Int := cmpI (crs ax ay bx b_y cx cy) 0
theorem cmpI_neg (x : Int) : cmpI (-x) 0 = - cmpI x 0 := by unfold cmpI; split <;> split <;> (try split) <;> (try split) <;> omega
theorem tn_round (ax ay bx b_y cx cy : Int) : tn bx b_y cx cy ax ay = tn ax ay bx b_y cx cy := by
  have e : crs bx b_y cx cy ax ay = crs ax ay bx b_y cx cy := by unfold crs; grind
  unfold tn; rw [e]
theorem tn_back (ax ay bx b_y cx cy : Int) : tn bx b_y ax ay cx cy = - tn ax ay bx b_y cx cy := by
  unfold tn; rw [crs_back, cmpI_neg]
theorem tn_same (ax ay cx cy : Int) : tn ax ay ax ay cx cy = 0 := by
  have e : crs ax ay ax ay cx cy = 0 := by unfold crs; grind
  unfold tn; rw [e]; rfl
theorem tn_end (ax ay bx b_y : Int) : tn ax ay bx b_y bx b_y = 0 := by
  have e : crs ax ay bx b_y bx b_y = 0 := by unfold crs; grind
  unfold tn; rw [e]; rfl
theorem crs_mir (ax ay bx b_y cx cy : Int) : crs (9 - ax) ay (9 - bx) b_y (9 - cx) cy = - crs ax ay bx b_y cx cy := by unfold crs; grind
theorem crs_swap (ax ay bx b_y cx cy : Int) : crs ay ax b_y bx cy cx = - crs ax ay bx b_y cx cy := by unfold crs; grind
theorem dt_mir (ax ay bx b_y cx cy : Int) : dt (9 - ax) ay (9 - bx) b_y (9 - cx) cy = dt ax ay bx b_y cx cy := by unfold dt; grind
theorem dt_swap (ax ay bx b_y cx cy : Int) : dt ay ax b_y bx cy cx = dt ax ay bx b_y cx cy := by unfold dt; grind
theorem tn_mir (ax ay bx b_y cx cy : Int) : tn (9 - ax) ay (9 - bx) b_y (9 - cx) cy = - tn ax ay bx b_y cx cy := by unfold tn; rw [crs_mir, cmpI_neg]
theorem tn_swap (ax ay bx b_y cx cy : Int) : tn ay ax b_y bx cy cx = - tn ax ay bx b_y cx cy := by unfold tn; rw [crs_swap, cmpI_neg]
/-- The segment has the point. -/
def hasC (ax ay bx b_y px py : Int) : Bool := decide (crs ax ay bx b_y px py = 0) && decide (dt px py ax ay bx b_y ≤ 0)
theorem hasC_iff (ax ay bx b_y px py : Int) : hasC ax ay bx b_y px py = true ↔ crs ax ay bx b_y px py = 0 ∧ dt px py ax ay bx b_y ≤ 0 := by simp [hasC]
theorem has_first (ax ay bx b_y : Int) : hasC ax ay bx b_y ax ay = true := by
  rw [hasC_iff]; unfold crs dt; exact ⟨by grind, by simp⟩
theorem has_last (ax ay bx b_y : Int) : hasC ax ay bx b_y bx b_y = true := by
  rw [hasC_iff]; unfold crs dt; exact ⟨by grind, by simp⟩
theorem has_back (ax ay bx b_y px py : Int) : hasC bx b_y ax ay px py = hasC ax ay bx b_y px py := by
  have e : dt px py bx b_y ax ay = dt px py ax ay bx b_y := by unfold dt; grind
  rw [Bool.eq_iff_iff, hasC_iff, hasC_iff, crs_back, e]; omega
theorem has_mir (ax ay bx b_y px py : Int) : hasC (9 - ax) ay (9 - bx) b_y (9 - px) py = hasC ax ay bx b_y px py := by
  rw [Bool.eq_iff_iff, hasC_iff, hasC_iff, crs_mir, dt_mir]; omega
theorem has_swap (ax ay bx b_y px py : Int) : hasC ay ax b_y bx py px = hasC ax ay bx b_y px py := by
  rw [Bool.eq_iff_iff, hasC_iff, hasC_iff, crs_swap, dt_swap]; omega
theorem has_along {ax ay bx b_y px py : Int} (hd : ¬ (ax = bx ∧ ay = b_y)) : hasC ax ay bx b_y px py = true ↔ crs ax ay bx b_y px py = 0 ∧ 0 ≤ dt ax ay bx b_y px py ∧ dt ax ay bx b_y px py ≤ dt ax ay bx b_y bx b_y := by
  rw [hasC_iff]
  constructor
  · rintro ⟨h, h'⟩; exact ⟨h, (mid_iff h hd).1 h'⟩
  · rintro ⟨h, h'⟩; exact ⟨h, (mid_iff h hd).2 h'⟩
theorem has_turn {ax ay bx b_y px py : Int} (h : hasC ax ay bx b_y px py = true) : tn ax ay bx b_y px py = 0 := by
  unfold tn; rw [((hasC_iff _ _ _ _ _ _).1 h).1]; rfl
/-- Ends on both sides. -/
def splB (ax ay bx b_y cx cy ex ey : Int) : Bool := decide (tn ax ay bx b_y cx cy * tn ax ay bx b_y ex ey < 0)
theorem neg_mul_neg' (x y : Int) : -x * -y = x * y := by grind
theorem spl_back1 (ax ay bx b_y cx cy ex ey : Int) : splB bx b_y ax ay cx cy ex ey = splB ax ay bx b_y cx cy ex ey := by
  unfold splB; rw [tn_back ax ay, tn_back ax ay, neg_mul_neg']
theorem spl_back2 (ax ay bx b_y cx cy ex ey : Int) : splB ax ay bx b_y ex ey cx cy = splB ax ay bx b_y cx cy ex ey := by
  unfold splB; rw [Int.mul_comm]
theorem spl_mir (ax ay bx b_y cx cy ex ey : Int) : splB (9 - ax) ay (9 - bx) b_y (9 - cx) cy (9 - ex) ey = splB ax ay bx b_y cx cy ex ey := by
  unfold splB; rw [tn_mir, tn_mir, neg_mul_neg']
theorem spl_swap (ax ay bx b_y cx cy ex ey : Int) : splB ay ax b_y bx cy cx ey ex = splB ax ay bx b_y cx cy ex ey := by
  unfold splB; rw [tn_swap ax ay, tn_swap ax ay, neg_mul_neg']
theorem cmp_mul (x y : Int) : cmpI x 0 * cmpI y 0 < 0 ↔ (x < 0 ∧ 0 < y) ∨ (0 < x ∧ y < 0) := by
  unfold cmpI; split <;> split <;> (try split) <;> (try split) <;> simp <;> omega
theorem spl_iff (ax ay bx b_y cx cy ex ey : Int) : splB ax ay bx b_y cx cy ex ey = true ↔ (crs ax ay bx b_y cx cy < 0 ∧ 0 < crs ax ay bx b_y ex ey) ∨ (0 < crs ax ay bx b_y cx cy ∧ crs ax ay bx b_y ex ey < 0) := by
  unfold splB tn; rw [decide_eq_true_iff]; exact cmp_mul _ _
/-- The segments meet. -/
def endB (ax ay bx b_y cx cy ex ey : Int) : Bool := hasC ax ay bx b_y cx cy || hasC ax ay bx b_y ex ey
def meetC (ax ay bx b_y cx cy ex ey : Int) : Bool :=
  endB ax ay bx b_y cx cy ex ey || endB cx cy ex ey ax ay bx b_y || splB ax ay bx b_y cx cy ex ey && splB cx cy ex ey ax ay bx b_y
theorem end_back1 (ax ay bx b_y cx cy ex ey : Int) : endB bx b_y ax ay cx cy ex ey = endB ax ay bx b_y cx cy ex ey := by
  unfold endB; rw [has_back ax ay, has_back ax ay]
theorem end_back2 (ax ay bx b_y cx cy ex ey : Int) : endB ax ay bx b_y ex ey cx cy = endB ax ay bx b_y cx cy ex ey := by
  unfold endB; rw [Bool.or_comm]
theorem meet_comm (ax ay bx b_y cx cy ex ey : Int) : meetC cx cy ex ey ax ay bx b_y = meetC ax ay bx b_y cx cy ex ey := by
  unfold meetC; rw [Bool.or_comm (endB cx cy ex ey ax ay bx b_y), Bool.and_comm (splB cx cy ex ey ax ay bx b_y)]
theorem meet_back1 (ax ay bx b_y cx cy ex ey : Int) : meetC bx b_y ax ay cx cy ex ey = meetC ax ay bx b_y cx cy ex ey := by
  unfold meetC; rw [end_back1 ax ay, end_back2 cx cy ex ey ax ay, spl_back1 ax ay, spl_back2 cx cy ex ey ax ay]
theorem meet_back2 (ax ay bx b_y cx cy ex ey : Int) : meetC ax ay bx b_y ex ey cx cy = meetC ax ay bx b_y cx cy ex ey := by
  unfold meetC; rw [end_back2 ax ay bx b_y cx cy, end_back1 cx cy, spl_back2 ax ay bx b_y cx cy, spl_back1 cx cy]
theorem meet_self (ax ay bx b_y : Int) : meetC ax ay bx b_y ax ay bx b_y = true := by
  unfold meetC endB; rw [has_first]; rfl
theorem meet_mir (ax ay bx b_y cx cy ex ey : Int) : meetC (9 - ax) ay (9 - bx) b_y (9 - cx) cy (9 - ex) ey = meetC ax ay bx b_y cx cy ex ey := by
  unfold meetC endB; rw [has_mir, has_mir, has_mir, has_mir, spl_mir, spl_mir]
theorem meet_swap (ax ay bx b_y cx cy ex ey : Int) : meetC ay ax b_y bx cy cx ey ex = meetC ax ay bx b_y cx cy ex ey := by
  unfold meetC endB; rw [has_swap ax ay, has_swap ax ay, has_swap cx cy, has_swap cx cy, spl_swap ax ay, spl_swap cx cy]
/-- How far a point is from a segment, squared. -/
def far (ax ay bx b_y px py : Int) : Int × Int :=
  if dt ax ay bx b_y px py ≤ 0 then (dt ax ay px py px py, 1)
  else if dt bx b_y ax ay px py ≤ 0 then (dt bx b_y px py px py, 1)
  else (ofN (crs ax ay bx b_y px py * crs ax ay bx b_y px py) (dt ax ay bx b_y bx b_y), ofD (crs ax ay bx b_y px py * crs ax ay bx b_y px py) (dt ax ay bx b_y bx b_y))
/-- Products of ways across the grid. -/
theorem prod_bd {x y : Int} (h1 : -9 ≤ x) (h2 : x ≤ 9) (h3 : -9 ≤ y) (h4 : y ≤ 9) : -81 ≤ x * y ∧ x * y ≤ 81 := by
  have a1 := Int.mul_nonneg (show 0 ≤ 9 - x by omega) (show 0 ≤ 9 - y by omega)
  have a2 := Int.mul_nonneg (show 0 ≤ 9 + x by omega) (show 0 ≤ 9 + y by omega)
  have a3 := Int.mul_nonneg (show 0 ≤ 9 - x by omega) (show 0 ≤ 9 + y by omega)
  have a4 := Int.mul_nonneg (show 0 ≤ 9 + x by omega) (show 0 ≤ 9 - y by omega)
  have e1 : (9 - x) * (9 - y) = 81 - 9 * x - 9 * y + x * y := by grind
  have e2 : (9 + x) * (9 + y) = 81 + 9 * x + 9 * y + x * y := by grind
  have e3 : (9 - x) * (9 + y) = 81 - 9 * x + 9 * y - x * y := by grind
  have e4 : (9 + x) * (9 - y) = 81 + 9 * x - 9 * y - x * y := by grind
  omega
theorem prod_bd2 {x y : Int} (h1 : -162 ≤ x) (h2 : x ≤ 162) (h3 : -162 ≤ y) (h4 : y ≤ 162) : -26244 ≤ x * y ∧ x * y ≤ 26244 := by
  have a1 := Int.mul_nonneg (show 0 ≤ 162 - x by omega) (show 0 ≤ 162 - y by omega)
  have a2 := Int.mul_nonneg (show 0 ≤ 162 + x by omega) (show 0 ≤ 162 + y by omega)
  have a3 := Int.mul_nonneg (show 0 ≤ 162 - x by omega) (show 0 ≤ 162 + y by omega)
  have a4 := Int.mul_nonneg (show 0 ≤ 162 + x by omega) (show 0 ≤ 162 - y by omega)
  have e1 : (162 - x) * (162 - y) = 26244 - 162 * x - 162 * y + x * y := by grind
  have e2 : (162 + x) * (162 + y) = 26244 + 162 * x + 162 * y + x * y := by grind
  have e3 : (162 - x) * (162 + y) = 26244 - 162 * x + 162 * y - x * y := by grind
  have e4 : (162 + x) * (162 - y) = 26244 + 162 * x - 162 * y - x * y := by grind
  omega
theorem dt_bd {ax ay bx b_y cx cy : Int} (ha : ptB ax ay = true) (hb : ptB bx b_y = true) (hc : ptB cx cy = true) : -162 ≤ dt ax ay bx b_y cx cy ∧ dt ax ay bx b_y cx cy ≤ 162 := by
  rw [ptB_iff] at ha hb hc
  have h1 := prod_bd (x := bx - ax) (y := cx - ax) (by omega) (by omega) (by omega) (by omega)
  have h2 := prod_bd (x := b_y - ay) (y := cy - ay) (by omega) (by omega) (by omega) (by omega)
  unfold dt; omega
theorem crs_bd {ax ay bx b_y cx cy : Int} (ha : ptB ax ay = true) (hb : ptB bx b_y = true) (hc : ptB cx cy = true) : -162 ≤ crs ax ay bx b_y cx cy ∧ crs ax ay bx b_y cx cy ≤ 162 := by
  rw [ptB_iff] at ha hb hc
  have h1 := prod_bd (x := bx - ax) (y := cy - ay) (by omega) (by omega) (by omega) (by omega)
  have h2 := prod_bd (x := b_y - ay) (y := cx - ax) (by omega) (by omega) (by omega) (by omega)
  unfold crs; omega
theorem sg_parts {ax ay bx b_y : Int} (hs : sgB ax ay bx b_y = true) : ptB ax ay = true ∧ ptB bx b_y = true ∧ ¬ (ax = bx ∧ ay = b_y) := by
  rw [sgB_iff] at hs
  exact ⟨(ptB_iff _ _).2 hs.1, (ptB_iff _ _).2 hs.2.1, hs.2.2⟩
theorem line_in {ax ay bx b_y px py : Int} (hs : sgB ax ay bx b_y = true) (hp : ptB px py = true) : inB (crs ax ay bx b_y px py * crs ax ay bx b_y px py) (dt ax ay bx b_y bx b_y) = true := by
  obtain ⟨ha, hb, hd⟩ := sg_parts hs
  have h1 := crs_bd ha hb hp
  have h2 := prod_bd2 h1.1 h1.2 h1.1 h1.2
  have h3 := sq_nonneg (crs ax ay bx b_y px py)
  have h4 := dt_self_pos hd
  have h5 := dt_bd ha hb hb
  rw [inB_iff]; omega
theorem far_cases (ax ay bx b_y px py : Int) :
    (dt ax ay bx b_y px py ≤ 0 ∧ far ax ay bx b_y px py = (dt ax ay px py px py, 1) ∧ farR ax ay bx b_y px py = (dt ax ay px py px py, 1)) ∨
    (0 < dt ax ay bx b_y px py ∧ dt ax ay bx b_y bx b_y ≤ dt ax ay bx b_y px py ∧ far ax ay bx b_y px py = (dt bx b_y px py px py, 1) ∧ farR ax ay bx b_y px py = (dt bx b_y px py px py, 1)) ∨
    (0 < dt ax ay bx b_y px py ∧ dt ax ay bx b_y px py < dt ax ay bx b_y bx b_y ∧ far ax ay bx b_y px py = (ofN (crs ax ay bx b_y px py * crs ax ay bx b_y px py) (dt ax ay bx b_y bx b_y), ofD (crs ax ay bx b_y px py * crs ax ay bx b_y px py) (dt ax ay bx b_y bx b_y)) ∧ farR ax ay bx b_y px py = (crs ax ay bx b_y px py * crs ax ay bx b_y px py, dt ax ay bx b_y bx b_y)) := by
  have hb := dt_back ax ay bx b_y px py
  unfold far farR
  by_cases h1 : dt ax ay bx b_y px py ≤ 0
  · exact .inl ⟨h1, if_pos h1, if_pos h1⟩
  · rw [if_neg h1, if_neg h1]
    by_cases h2 : dt bx b_y ax ay px py ≤ 0
    · exact .inr (.inl ⟨by omega, by omega, if_pos h2, if_pos h2⟩)
    · exact .inr (.inr ⟨by omega, by omega, if_neg h2, if_neg h2⟩)
theorem far_ok {ax ay bx b_y px py : Int} (hs : sgB ax ay bx b_y = true) (hp : ptB px py = true) : okB (far ax ay bx b_y px py).1 (far ax ay bx b_y px py).2 = true := by
  obtain ⟨ha, hb, hd⟩ := sg_parts hs
  rcases far_cases ax ay bx b_y px py with ⟨_, e, _⟩ | ⟨_, _, e, _⟩ | ⟨_, _, e, _⟩ <;> rw [e]
  · have h1 := dt_self_nonneg ax ay px py
    have h2 := dt_bd ha hp hp
    exact okB_one _ h1 (by omega)
  · have h1 := dt_self_nonneg bx b_y px py
    have h2 := dt_bd hb hp hp
    exact okB_one _ h1 (by omega)
  · exact (of_good _ _ (line_in hs hp)).1
theorem far_raw {ax ay bx b_y px py : Int} (hs : sgB ax ay bx b_y = true) (hp : ptB px py = true) : (far ax ay bx b_y px py).1 * (farR ax ay bx b_y px py).2 = (farR ax ay bx b_y px py).1 * (far ax ay bx b_y px py).2 := by
  rcases far_cases ax ay bx b_y px py with ⟨_, e, e'⟩ | ⟨_, _, e, e'⟩ | ⟨_, _, e, e'⟩ <;> rw [e, e']
  exact (of_good _ _ (line_in hs hp)).2.1
theorem far_pos {ax ay bx b_y px py : Int} (hs : sgB ax ay bx b_y = true) (hp : ptB px py = true) : 0 ≤ (far ax ay bx b_y px py).1 ∧ 0 < (far ax ay bx b_y px py).2 := by
  have := (okB_iff _ _).1 (far_ok hs hp); omega
/-- From the raw one to the simple one. -/
theorem raw_le {f r : Int × Int} {m b : Int} (e : f.1 * r.2 = r.1 * f.2) (hr : 0 < r.2) (hf : 0 < f.2) (h : r.1 * b ≤ m * r.2) : f.1 * b ≤ m * f.2 := by
  refine Int.le_of_mul_le_mul_left (a := r.2) ?_ hr
  have h1 := Int.mul_le_mul_of_nonneg_left h (show 0 ≤ f.2 by omega)
  grind
theorem raw_ge {f r : Int × Int} {m b : Int} (e : f.1 * r.2 = r.1 * f.2) (hr : 0 < r.2) (hf : 0 < f.2) (h : m * r.2 ≤ r.1 * b) : m * f.2 ≤ f.1 * b := by
  refine Int.le_of_mul_le_mul_left (a := r.2) ?_ hr
  have h1 := Int.mul_le_mul_of_nonneg_left h (show 0 ≤ f.2 by omega)
  grind
theorem far_le {ax ay bx b_y px py m b : Int} (hs : sgB ax ay bx b_y = true) (hp : ptB px py = true) (h : (farR ax ay bx b_y px py).1 * b ≤ m * (farR ax ay bx b_y px py).2) : (far ax ay bx b_y px py).1 * b ≤ m * (far ax ay bx b_y px py).2 :=
  raw_le (far_raw hs hp) (farR_pos px py (sg_parts hs).2.2).2 (far_pos hs hp).2 h
theorem far_le' {ax ay bx b_y px py m b : Int} (hs : sgB ax ay bx b_y = true) (hp : ptB px py = true) (h : (far ax ay bx b_y px py).1 * b ≤ m * (far ax ay bx b_y px py).2) : (farR ax ay bx b_y px py).1 * b ≤ m * (farR ax ay bx b_y px py).2 :=
  raw_le (far_raw hs hp).symm (far_pos hs hp).2 (farR_pos px py (sg_parts hs).2.2).2 h
/-- The promises on how far. -/
theorem far_back {ax ay bx b_y : Int} (px py : Int) (hd : ¬ (ax = bx ∧ ay = b_y)) : far bx b_y ax ay px py = far ax ay bx b_y px py := by
  have hp := dt_self_pos hd
  have hb := dt_back ax ay bx b_y px py
  have hc := crs_back ax ay bx b_y px py
  have hs := dt_self_back ax ay bx b_y
  have hcc : crs bx b_y ax ay px py * crs bx b_y ax ay px py = crs ax ay bx b_y px py * crs ax ay bx b_y px py := by rw [hc]; grind
  unfold far
  rw [hcc, hs]
  by_cases h1 : dt ax ay bx b_y px py ≤ 0
  · rw [if_pos h1, if_neg (by omega), if_pos h1]
  · rw [if_neg h1, if_neg h1]
theorem far_mir (ax ay bx b_y px py : Int) : far (9 - ax) ay (9 - bx) b_y (9 - px) py = far ax ay bx b_y px py := by
  unfold far; rw [dt_mir, dt_mir, dt_mir, dt_mir, dt_mir, crs_mir, neg_mul_neg']
theorem far_swap (ax ay bx b_y px py : Int) : far ay ax b_y bx py px = far ax ay bx b_y px py := by
  unfold far; rw [dt_swap ax ay, dt_swap bx b_y, dt_swap ax ay, dt_swap bx b_y, dt_swap ax ay, crs_swap ax ay, neg_mul_neg']
theorem dt_shift (ax ay bx b_y px py : Int) : dt (ax + 1) ay (bx + 1) b_y (px + 1) py = dt ax ay bx b_y px py := by unfold dt; grind
theorem crs_shift (ax ay bx b_y px py : Int) : crs (ax + 1) ay (bx + 1) b_y (px + 1) py = crs ax ay bx b_y px py := by unfold crs; grind
theorem far_shift (ax ay bx b_y px py : Int) : far (ax + 1) ay (bx + 1) b_y (px + 1) py = far ax ay bx b_y px py := by
  unfold far; rw [dt_shift, dt_shift, dt_shift, dt_shift, dt_shift, crs_shift]
theorem tn_shift (ax ay bx b_y px py : Int) : tn (ax + 1) ay (bx + 1) b_y (px + 1) py = tn ax ay bx b_y px py := by
  unfold tn; rw [crs_shift]
/-- 0 just if the segment has the point. -/
theorem far_zero {ax ay bx b_y px py : Int} (hs : sgB ax ay bx b_y = true) (hp : ptB px py = true) : (far ax ay bx b_y px py).1 = 0 ↔ hasC ax ay bx b_y px py = true := by
  obtain ⟨ha, hb, hd⟩ := sg_parts hs
  have hD := dt_self_pos hd
  rw [has_along hd]
  have hl := lagr ax ay bx b_y px py
  rcases far_cases ax ay bx b_y px py with ⟨k, e, _⟩ | ⟨k, k2, e, _⟩ | ⟨k, k2, e, _⟩ <;> rw [e]
  · constructor
    · intro h
      have h' : dt ax ay px py px py = 0 := h
      rw [h', Int.zero_mul] at hl
      have q1 := sq_nonneg (dt ax ay bx b_y px py)
      have q2 := sq_nonneg (crs ax ay bx b_y px py)
      have q := sq2_zero (x := dt ax ay bx b_y px py) (y := crs ax ay bx b_y px py) (by omega)
      omega
    · rintro ⟨h1, h2, h3⟩
      have h4 : dt ax ay bx b_y px py = 0 := by omega
      rw [h1, h4] at hl
      have : dt ax ay px py px py = 0 := by
        rcases Int.mul_eq_zero.1 (show dt ax ay px py px py * dt ax ay bx b_y bx b_y = 0 by rw [hl]; rfl) with h | h
        · exact h
        · omega
      exact this
  · have hl2 := lagr bx b_y ax ay px py
    rw [dt_self_back ax ay, crs_back ax ay, dt_back ax ay bx b_y px py] at hl2
    constructor
    · intro h
      have h' : dt bx b_y px py px py = 0 := h
      rw [h', Int.zero_mul] at hl2
      have q := sq2_zero (x := dt ax ay bx b_y bx b_y - dt ax ay bx b_y px py) (y := - crs ax ay bx b_y px py) (by omega)
      omega
    · rintro ⟨h1, h2, h3⟩
      have h4 : dt ax ay bx b_y bx b_y - dt ax ay bx b_y px py = 0 := by omega
      rw [h1, h4] at hl2
      have : dt bx b_y px py px py = 0 := by
        rcases Int.mul_eq_zero.1 (show dt bx b_y px py px py * dt ax ay bx b_y bx b_y = 0 by rw [hl2]; rfl) with h | h
        · exact h
        · omega
      exact this
  · have hg := of_good _ _ (line_in hs hp)
    constructor
    · intro h
      have h' : ofN (crs ax ay bx b_y px py * crs ax ay bx b_y px py) (dt ax ay bx b_y bx b_y) = 0 := h
      have h2 := hg.2.1
      rw [h', Int.zero_mul] at h2
      have h3 : crs ax ay bx b_y px py * crs ax ay bx b_y px py = 0 := by
        rcases Int.mul_eq_zero.1 h2.symm with h | h
        · exact h
        · omega
      have h4 : crs ax ay bx b_y px py = 0 := by rcases Int.mul_eq_zero.1 h3 with h | h <;> exact h
      omega
    · rintro ⟨h1, _, _⟩
      have h2 := hg.2.1
      rw [h1] at h2 ⊢
      rw [Int.mul_zero, Int.zero_mul] at h2
      rcases Int.mul_eq_zero.1 h2 with h | h
      · exact h
      · omega
theorem ok_zero {f : Int × Int} (h : okB f.1 f.2 = true) : f.1 = 0 ↔ f = (0, 1) := by
  constructor
  · intro h0
    have k : okB 0 1 = true := okB_one 0 (by decide) (by decide)
    have := ok_same h k (by rw [h0]; simp)
    exact Prod.ext this.1 this.2
  · intro h0; rw [h0]
/-- What the segment has is not farther from an end than the other end. -/
theorem has_near {ax ay bx b_y px py : Int} (hd : ¬ (ax = bx ∧ ay = b_y)) (h : hasC ax ay bx b_y px py = true) : dt ax ay px py px py ≤ dt ax ay bx b_y bx b_y := by
  rw [has_along hd] at h
  obtain ⟨h1, h2, h3⟩ := h
  have hD := dt_self_pos hd
  have hl := lagr ax ay bx b_y px py
  rw [h1, Int.mul_zero, Int.add_zero] at hl
  have := Int.mul_le_mul h3 h3 h2 (by omega)
  rw [← hl] at this
  exact Int.le_of_mul_le_mul_right this hD
end Go.Proofs.YtfdnadiliedikaaDoor
