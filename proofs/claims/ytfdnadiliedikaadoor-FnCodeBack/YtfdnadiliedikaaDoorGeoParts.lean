/-
  OUR OWN TEXT. Plain geometry: who meets a segment meets a part of it; no point of a segment is nearer to another one than both are. No program stands in it.
-/
import Derived.Test.YtfdnadiliedikaaDoorGeoApart
namespace Go.Proofs.YtfdnadiliedikaaDoor

/-- The way between two points of two segments, parts l and m of n, squared and n * n times as great. -/
def gap (dx dy ex ey gx gy l m n : Int) : Int := (l * dx - m * ex - n * gx) * (l * dx - m * ex - n * gx) + (l * dy - m * ey - n * gy) * (l * dy - m * ey - n * gy)
theorem gap_nonneg (dx dy ex ey gx gy l m n : Int) : 0 ≤ gap dx dy ex ey gx gy l m n := by
  have h1 := sq_nonneg (l * dx - m * ex - n * gx)
  have h2 := sq_nonneg (l * dy - m * ey - n * gy)
  unfold gap; omega
theorem sq_mono {x y : Int} (h0 : 0 ≤ x) (h : x ≤ y) : x * x ≤ y * y := Int.mul_le_mul h h h0 (by omega)
/-- If one comes nearer, some end is as near. -/
theorem gap_core (dx dy ex ey gx gy K al be l m n : Int) (hx : K * gx = al * dx - be * ex) (hy : K * gy = al * dy - be * ey) (hK : 0 ≤ K) (ha : al ≤ 0) (hKa : 0 < K - al)
    (l0 : 0 ≤ l) (l1 : l ≤ n) (m0 : 0 ≤ m) (m1 : m ≤ n) (hn : 0 < n) :
    ∃ l' m' n', 0 < n' ∧ 0 ≤ l' ∧ l' ≤ n' ∧ 0 ≤ m' ∧ m' ≤ n' ∧ (l' = 0 ∨ m' = 0 ∨ m' = n') ∧ gap dx dy ex ey gx gy l' m' n' * (n * n) ≤ gap dx dy ex ey gx gy l m n * (n' * n') := by
  by_cases hl : l = 0
  · exact ⟨l, m, n, hn, l0, l1, m0, m1, .inl hl, Int.le_refl _⟩
  have hl' : 0 < l := by omega
  have lK : 0 ≤ l * K := Int.mul_nonneg l0 hK
  have aN : 0 ≤ (-al) * n := Int.mul_nonneg (by omega) (by omega)
  have hN : 0 < l * K + (-al) * n := by
    by_cases hk : K = 0
    · have : 0 < (-al) * n := Int.mul_pos (by omega) hn
      omega
    · have : 0 < l * K := Int.mul_pos hl' (by omega)
      omega
  have g0 := gap_nonneg dx dy ex ey gx gy l m n
  have fin : ∀ c n' : Int, 0 ≤ c → c * n ≤ n' → c * c * gap dx dy ex ey gx gy l m n * (n * n) ≤ gap dx dy ex ey gx gy l m n * (n' * n') := by
    intro c n' hc hcn
    have h1 := sq_mono (Int.mul_nonneg hc (by omega)) hcn
    have h2 := Int.mul_le_mul_of_nonneg_left h1 g0
    have e : c * c * gap dx dy ex ey gx gy l m n * (n * n) = gap dx dy ex ey gx gy l m n * (c * n * (c * n)) := by grind
    rw [e]; exact h2
  by_cases c1 : l * be - al * m < 0
  · have hb : be < 0 := by
      rcases Int.lt_or_le be 0 with h | h
      · exact h
      · have := Int.mul_nonneg l0 h
        have := Int.mul_nonneg (show 0 ≤ -al by omega) m0
        have e : -al * m = -(al * m) := by grind
        omega
    have mK : 0 ≤ m * K := Int.mul_nonneg m0 hK
    have bN : 0 < (-be) * n := Int.mul_pos (by omega) hn
    have t1 : 0 ≤ m * (-al) := Int.mul_nonneg m0 (by omega)
    have t2 : 0 ≤ (-be) * (n - l) := Int.mul_nonneg (by omega) (by omega)
    have e1 : m * al - be * l = -(l * be - al * m) := by grind
    have e2 : m * al - be * l = -(m * (-al)) + (-be) * n - (-be) * (n - l) := by grind
    refine ⟨m * al - be * l, 0, m * K + (-be) * n, by omega, by omega, by omega, by omega, by omega, .inr (.inl rfl), ?_⟩
    have e : gap dx dy ex ey gx gy (m * al - be * l) 0 (m * K + (-be) * n) = (-be) * (-be) * gap dx dy ex ey gx gy l m n := by
      have q1 : (m * al - be * l) * dx - 0 * ex - (m * K + (-be) * n) * gx = (-be) * (l * dx - m * ex - n * gx) := by grind
      have q2 : (m * al - be * l) * dy - 0 * ey - (m * K + (-be) * n) * gy = (-be) * (l * dy - m * ey - n * gy) := by grind
      unfold gap; rw [q1, q2]; grind
    rw [e]
    exact fin (-be) _ (by omega) (by omega)
  · by_cases c2 : l * K + (-al) * n < l * be - al * m
    · have t0 : 0 ≤ (-al) * (n - m) := Int.mul_nonneg (by omega) (by omega)
      have hb : K < be := by
        rcases Int.lt_or_le K be with h | h
        · exact h
        · have t := Int.mul_nonneg l0 (show 0 ≤ K - be by omega)
          have e1 : l * (K - be) = l * K - l * be := by grind
          have e2 : (-al) * (n - m) = (-al) * n + al * m := by grind
          omega
      have mK : 0 ≤ (n - m) * K := Int.mul_nonneg (by omega) hK
      have bN : 0 < (be - K) * n := Int.mul_pos (by omega) hn
      have t2 : 0 ≤ (be - K) * (n - l) := Int.mul_nonneg (by omega) (by omega)
      have e1 : (be - K) * l + (n - m) * al = l * be - al * m - (l * K + (-al) * n) := by grind
      have e2 : (be - K) * l + (n - m) * al = (be - K) * n - (be - K) * (n - l) - (-al) * (n - m) := by grind
      refine ⟨(be - K) * l + (n - m) * al, (n - m) * K + (be - K) * n, (n - m) * K + (be - K) * n, by omega, by omega, by omega, by omega, by omega, .inr (.inr rfl), ?_⟩
      have e : gap dx dy ex ey gx gy ((be - K) * l + (n - m) * al) ((n - m) * K + (be - K) * n) ((n - m) * K + (be - K) * n) = (be - K) * (be - K) * gap dx dy ex ey gx gy l m n := by
        have q1 : ((be - K) * l + (n - m) * al) * dx - ((n - m) * K + (be - K) * n) * ex - ((n - m) * K + (be - K) * n) * gx = (be - K) * (l * dx - m * ex - n * gx) := by grind
        have q2 : ((be - K) * l + (n - m) * al) * dy - ((n - m) * K + (be - K) * n) * ey - ((n - m) * K + (be - K) * n) * gy = (be - K) * (l * dy - m * ey - n * gy) := by grind
        unfold gap; rw [q1, q2]; grind
      rw [e]
      exact fin (be - K) _ (by omega) (by omega)
    · refine ⟨0, l * be - al * m, l * K + (-al) * n, hN, by omega, by omega, by omega, by omega, .inl rfl, ?_⟩
      have e : gap dx dy ex ey gx gy 0 (l * be - al * m) (l * K + (-al) * n) = (-al) * (-al) * gap dx dy ex ey gx gy l m n := by
        have q1 : 0 * dx - (l * be - al * m) * ex - (l * K + (-al) * n) * gx = (-al) * (l * dx - m * ex - n * gx) := by grind
        have q2 : 0 * dy - (l * be - al * m) * ey - (l * K + (-al) * n) * gy = (-al) * (l * dy - m * ey - n * gy) := by grind
        unfold gap; rw [q1, q2]; grind
      rw [e]
      exact fin (-al) _ (by omega) (by omega)
/-- A part of a segment beside: the same way, so much shorter. -/
theorem has_end_dir {ax ay bx b_y qx qy : Int} (hd : ¬ (ax = bx ∧ ay = b_y)) (hq : hasC ax ay bx b_y qx qy = true) (hb : ¬ (qx = bx ∧ qy = b_y)) : 0 < dt ax ay bx b_y bx b_y - dt ax ay bx b_y qx qy := by
  obtain ⟨h1, h2, h3⟩ := (has_along hd).1 hq
  have hl := lagr bx b_y ax ay qx qy
  rw [dt_self_back ax ay, crs_back ax ay, dt_back ax ay bx b_y qx qy, h1] at hl
  rcases Int.lt_or_le 0 (dt ax ay bx b_y bx b_y - dt ax ay bx b_y qx qy) with h | h
  · exact h
  · have h0 : dt ax ay bx b_y bx b_y - dt ax ay bx b_y qx qy = 0 := by omega
    rw [h0] at hl
    have hD := dt_self_pos hd
    have hz : dt bx b_y qx qy qx qy = 0 := by
      rcases Int.mul_eq_zero.1 (show dt bx b_y qx qy qx qy * dt ax ay bx b_y bx b_y = 0 by rw [hl]; rfl) with h | h
      · exact h
      · omega
    have := dt_self_pos (ax := bx) (ay := b_y) (bx := qx) (b_y := qy) (by omega)
    omega
/-- What is on a segment is on one of its parts. -/
theorem has_part {ax ay bx b_y qx qy cx cy : Int} (hd : ¬ (ax = bx ∧ ay = b_y)) (hq : hasC ax ay bx b_y qx qy = true) (hc : hasC ax ay bx b_y cx cy = true) : hasC ax ay qx qy cx cy = true ∨ hasC qx qy bx b_y cx cy = true := by
  obtain ⟨q1, q2, q3⟩ := (has_along hd).1 hq
  obtain ⟨c1, c2, c3⟩ := (has_along hd).1 hc
  have hD := dt_self_pos hd
  have pa : crs ax ay qx qy cx cy * dt ax ay bx b_y bx b_y = 0 := by
    have e : crs ax ay qx qy cx cy * dt ax ay bx b_y bx b_y = dt ax ay bx b_y qx qy * crs ax ay bx b_y cx cy - crs ax ay bx b_y qx qy * dt ax ay bx b_y cx cy := by unfold dt crs; grind
    rw [e, q1, c1]; simp
  have pa' : crs ax ay qx qy cx cy = 0 := by rcases Int.mul_eq_zero.1 pa with h | h; exact h; omega
  have pb' : crs qx qy bx b_y cx cy = 0 := by unfold crs at *; grind
  rw [hasC_iff, hasC_iff]
  have ea : dt cx cy ax ay qx qy * dt ax ay bx b_y bx b_y = dt ax ay bx b_y cx cy * (dt ax ay bx b_y cx cy - dt ax ay bx b_y qx qy) := by unfold dt crs at *; grind
  have eb : dt cx cy qx qy bx b_y * dt ax ay bx b_y bx b_y = (dt ax ay bx b_y qx qy - dt ax ay bx b_y cx cy) * (dt ax ay bx b_y bx b_y - dt ax ay bx b_y cx cy) := by unfold dt crs at *; grind
  rcases Int.le_total (dt ax ay bx b_y cx cy) (dt ax ay bx b_y qx qy) with h | h
  · left
    refine ⟨pa', ?_⟩
    have t := Int.mul_nonneg c2 (show 0 ≤ dt ax ay bx b_y qx qy - dt ax ay bx b_y cx cy by omega)
    rcases Int.lt_or_le 0 (dt cx cy ax ay qx qy) with h' | h'
    · have t2 := Int.mul_pos h' hD
      have e : dt ax ay bx b_y cx cy * (dt ax ay bx b_y cx cy - dt ax ay bx b_y qx qy) = -(dt ax ay bx b_y cx cy * (dt ax ay bx b_y qx qy - dt ax ay bx b_y cx cy)) := by grind
      omega
    · exact h'
  · right
    refine ⟨pb', ?_⟩
    have t := Int.mul_nonneg (show 0 ≤ dt ax ay bx b_y cx cy - dt ax ay bx b_y qx qy by omega) (show 0 ≤ dt ax ay bx b_y bx b_y - dt ax ay bx b_y cx cy by omega)
    rcases Int.lt_or_le 0 (dt cx cy qx qy bx b_y) with h' | h'
    · have t2 := Int.mul_pos h' hD
      have e : (dt ax ay bx b_y qx qy - dt ax ay bx b_y cx cy) * (dt ax ay bx b_y bx b_y - dt ax ay bx b_y cx cy) = -((dt ax ay bx b_y cx cy - dt ax ay bx b_y qx qy) * (dt ax ay bx b_y bx b_y - dt ax ay bx b_y cx cy)) := by grind
      omega
    · exact h'
/-- A part from a point on the segment to its last end splits what the segment splits. -/
theorem spl_part {ax ay bx b_y qx qy cx cy ex ey : Int} (hd : ¬ (ax = bx ∧ ay = b_y)) (hq : hasC ax ay bx b_y qx qy = true) (hb : ¬ (qx = bx ∧ qy = b_y)) (h : splB ax ay bx b_y cx cy ex ey = true) : splB qx qy bx b_y cx cy ex ey = true := by
  obtain ⟨q1, q2, q3⟩ := (has_along hd).1 hq
  have hk := has_end_dir hd hq hb
  have hD := dt_self_pos hd
  have e : ∀ x y, crs qx qy bx b_y x y * dt ax ay bx b_y bx b_y = (dt ax ay bx b_y bx b_y - dt ax ay bx b_y qx qy) * crs ax ay bx b_y x y := by intro x y; unfold dt crs at *; grind
  have sg : ∀ x y, (0 < crs ax ay bx b_y x y → 0 < crs qx qy bx b_y x y) ∧ (crs ax ay bx b_y x y < 0 → crs qx qy bx b_y x y < 0) := by
    intro x y
    constructor
    · intro hp
      rcases Int.lt_or_le 0 (crs qx qy bx b_y x y) with h' | h'
      · exact h'
      · have t1 := Int.mul_pos hk hp
        have t2 := Int.mul_nonpos_of_nonpos_of_nonneg h' (show 0 ≤ dt ax ay bx b_y bx b_y by omega)
        have := e x y
        omega
    · intro hp
      rcases Int.lt_or_le (crs qx qy bx b_y x y) 0 with h' | h'
      · exact h'
      · have t1 := Int.mul_neg_of_pos_of_neg hk hp
        have t2 := Int.mul_nonneg h' (show 0 ≤ dt ax ay bx b_y bx b_y by omega)
        have := e x y
        omega
  rw [spl_iff] at h ⊢
  rcases h with ⟨h1, h2⟩ | ⟨h1, h2⟩
  · exact .inl ⟨(sg _ _).2 h1, (sg _ _).1 h2⟩
  · exact .inr ⟨(sg _ _).1 h1, (sg _ _).2 h2⟩
/-- Where the lines cross, the second segment has the point. -/
theorem has_cross {ax ay bx b_y qx qy cx cy ex ey : Int} (q1 : crs ax ay bx b_y qx qy = 0) (h : splB ax ay bx b_y cx cy ex ey = true) (h0 : crs cx cy ex ey qx qy = 0) : hasC cx cy ex ey qx qy = true := by
  rw [hasC_iff]
  refine ⟨h0, ?_⟩
  have e : crs ax ay bx b_y cx cy * crs ax ay bx b_y ex ey * dt qx qy ex ey ex ey = crs ax ay bx b_y ex ey * crs ax ay bx b_y ex ey * dt qx qy cx cy ex ey := by unfold dt crs at *; grind
  rw [spl_iff] at h
  have hne : 0 < crs ax ay bx b_y ex ey * crs ax ay bx b_y ex ey := by
    rcases h with ⟨_, h2⟩ | ⟨_, h2⟩
    · exact Int.mul_pos h2 h2
    · exact Int.mul_pos_of_neg_of_neg h2 h2
  have hm : crs ax ay bx b_y cx cy * crs ax ay bx b_y ex ey ≤ 0 := by
    rcases h with ⟨h1, h2⟩ | ⟨h1, h2⟩
    · exact Int.mul_nonpos_of_nonpos_of_nonneg (by omega) (by omega)
    · exact Int.mul_nonpos_of_nonneg_of_nonpos (by omega) (by omega)
  have t := Int.mul_nonpos_of_nonpos_of_nonneg hm (dt_self_nonneg qx qy ex ey)
  rcases Int.lt_or_le 0 (dt qx qy cx cy ex ey) with h' | h'
  · have := Int.mul_pos hne h'
    omega
  · exact h'
/-- Who meets a segment meets a part of it. -/
theorem meet_parts {ax ay bx b_y qx qy cx cy ex ey : Int} (hd : ¬ (ax = bx ∧ ay = b_y)) (hq : hasC ax ay bx b_y qx qy = true) (ha : ¬ (qx = ax ∧ qy = ay)) (hb : ¬ (qx = bx ∧ qy = b_y)) (h : meetC ax ay bx b_y cx cy ex ey = true) :
    (meetC ax ay qx qy cx cy ex ey || meetC qx qy bx b_y cx cy ex ey) = true := by
  have hd' : ¬ (bx = ax ∧ b_y = ay) := by omega
  have hq' : hasC bx b_y ax ay qx qy = true := by rw [has_back ax ay]; exact hq
  unfold meetC endB at *
  simp only [Bool.or_eq_true, Bool.and_eq_true] at h ⊢
  rcases h with ((h | h) | (h | h)) | ⟨h1, h2⟩
  · rcases has_part hd hq h with h' | h' <;> simp [h']
  · rcases has_part hd hq h with h' | h' <;> simp [h']
  · simp [h]
  · simp [h]
  · by_cases h0 : crs cx cy ex ey qx qy = 0
    · have := has_cross ((has_along hd).1 hq).1 h1 h0
      simp [this]
    · have s1 := spl_part hd hq hb h1
      have s2 := spl_part hd' hq' ha (by rw [spl_back1 ax ay]; exact h1)
      rw [spl_back1 ax ay qx qy] at s2
      rw [spl_iff] at h2
      have : splB cx cy ex ey ax ay qx qy = true ∨ splB cx cy ex ey qx qy bx b_y = true := by
        rw [spl_iff, spl_iff]; omega
      rcases this with h' | h' <;> simp [h', s1, s2]
/-- From a point between to an end: the four ends of two segments. -/
theorem gap_first {ax ay bx b_y cx cy ex ey : Int} (hs : sgB ax ay bx b_y = true) (ht : sgB cx cy ex ey = true) (l m n : Int) (hn : 0 < n) (l0 : 0 ≤ l) (l1 : l ≤ n) (m0 : 0 ≤ m) (m1 : m ≤ n) (hb : l = 0 ∨ l = n ∨ m = 0 ∨ m = n) :
    ∃ f : Int × Int, (f = farR ax ay bx b_y cx cy ∨ f = farR ax ay bx b_y ex ey ∨ f = farR cx cy ex ey ax ay ∨ f = farR cx cy ex ey bx b_y) ∧ f.1 * (n * n) ≤ gap (bx - ax) (b_y - ay) (ex - cx) (ey - cy) (cx - ax) (cy - ay) l m n * f.2 := by
  have hd := (sg_parts hs).2.2
  have hd2 := (sg_parts ht).2.2
  rcases hb with rfl | rfl | rfl | rfl
  · refine ⟨_, .inr (.inr (.inl rfl)), ?_⟩
    have h := farR_le cx cy ex ey ax ay m n m0 m1 hd2
    have e : gap (bx - ax) (b_y - ay) (ex - cx) (ey - cy) (cx - ax) (cy - ay) 0 m n = (n * (ax - cx) - m * (ex - cx)) * (n * (ax - cx) - m * (ex - cx)) + (n * (ay - cy) - m * (ey - cy)) * (n * (ay - cy) - m * (ey - cy)) := by unfold gap; grind
    rw [e]; exact h
  · refine ⟨_, .inr (.inr (.inr rfl)), ?_⟩
    have h := farR_le cx cy ex ey bx b_y m l m0 m1 hd2
    have e : gap (bx - ax) (b_y - ay) (ex - cx) (ey - cy) (cx - ax) (cy - ay) l m l = (l * (bx - cx) - m * (ex - cx)) * (l * (bx - cx) - m * (ex - cx)) + (l * (b_y - cy) - m * (ey - cy)) * (l * (b_y - cy) - m * (ey - cy)) := by unfold gap; grind
    rw [e]; exact h
  · refine ⟨_, .inl rfl, ?_⟩
    have h := farR_le ax ay bx b_y cx cy l n l0 l1 hd
    have e : gap (bx - ax) (b_y - ay) (ex - cx) (ey - cy) (cx - ax) (cy - ay) l 0 n = (n * (cx - ax) - l * (bx - ax)) * (n * (cx - ax) - l * (bx - ax)) + (n * (cy - ay) - l * (b_y - ay)) * (n * (cy - ay) - l * (b_y - ay)) := by unfold gap; grind
    rw [e]; exact h
  · refine ⟨_, .inr (.inl rfl), ?_⟩
    have h := farR_le ax ay bx b_y ex ey l m l0 l1 hd
    have e : gap (bx - ax) (b_y - ay) (ex - cx) (ey - cy) (cx - ax) (cy - ay) l m m = (m * (ex - ax) - l * (bx - ax)) * (m * (ex - ax) - l * (bx - ax)) + (m * (ey - ay) - l * (b_y - ay)) * (m * (ey - ay) - l * (b_y - ay)) := by unfold gap; grind
    rw [e]; exact h
/-- The core, seen from each of the four sides. -/
theorem gap_any (dx dy ex ey gx gy K al be l m n : Int) (hx : K * gx = al * dx - be * ex) (hy : K * gy = al * dy - be * ey) (hK : 0 ≤ K) (hout : (al ≤ 0 ∧ 0 < K - al) ∨ (K ≤ al ∧ 0 < al) ∨ (be ≤ 0 ∧ 0 < K - be) ∨ (K ≤ be ∧ 0 < be))
    (l0 : 0 ≤ l) (l1 : l ≤ n) (m0 : 0 ≤ m) (m1 : m ≤ n) (hn : 0 < n) :
    ∃ l' m' n', 0 < n' ∧ 0 ≤ l' ∧ l' ≤ n' ∧ 0 ≤ m' ∧ m' ≤ n' ∧ (l' = 0 ∨ l' = n' ∨ m' = 0 ∨ m' = n') ∧ gap dx dy ex ey gx gy l' m' n' * (n * n) ≤ gap dx dy ex ey gx gy l m n * (n' * n') := by
  have rev : ∀ dx dy ex ey gx gy l m n : Int, gap (-dx) (-dy) ex ey (gx - dx) (gy - dy) (n - l) m n = gap dx dy ex ey gx gy l m n := by intros; unfold gap; grind
  have swp : ∀ dx dy ex ey gx gy l m n : Int, gap ex ey dx dy (-gx) (-gy) m l n = gap dx dy ex ey gx gy l m n := by intros; unfold gap; grind
  rcases hout with ⟨h1, h2⟩ | ⟨h1, h2⟩ | ⟨h1, h2⟩ | ⟨h1, h2⟩
  · obtain ⟨l', m', n', a1, a2, a3, a4, a5, a6, a7⟩ := gap_core dx dy ex ey gx gy K al be l m n hx hy hK h1 h2 l0 l1 m0 m1 hn
    exact ⟨l', m', n', a1, a2, a3, a4, a5, by omega, a7⟩
  · obtain ⟨l', m', n', a1, a2, a3, a4, a5, a6, a7⟩ := gap_core (-dx) (-dy) ex ey (gx - dx) (gy - dy) K (K - al) be (n - l) m n (by grind) (by grind) hK (by omega) (by omega) (by omega) (by omega) m0 m1 hn
    rw [rev] at a7
    have := rev dx dy ex ey gx gy (n' - l') m' n'
    rw [show n' - (n' - l') = l' by omega] at this
    rw [this] at a7
    exact ⟨n' - l', m', n', a1, by omega, by omega, a4, a5, by omega, a7⟩
  · obtain ⟨l', m', n', a1, a2, a3, a4, a5, a6, a7⟩ := gap_core ex ey dx dy (-gx) (-gy) K be al m l n (by grind) (by grind) hK h1 h2 m0 m1 l0 l1 hn
    rw [swp, swp] at a7
    exact ⟨m', l', n', a1, a4, a5, a2, a3, by omega, a7⟩
  · obtain ⟨l', m', n', a1, a2, a3, a4, a5, a6, a7⟩ := gap_core (-ex) (-ey) dx dy (-gx - ex) (-gy - ey) K (K - be) al (n - m) l n (by grind) (by grind) hK (by omega) (by omega) (by omega) (by omega) l0 l1 hn
    rw [rev, swp] at a7
    have := rev ex ey dx dy (-gx) (-gy) (n' - l') m' n'
    rw [show n' - (n' - l') = l' by omega, swp] at this
    rw [this] at a7
    exact ⟨m', n' - l', n', a1, a4, a5, by omega, by omega, by omega, a7⟩
/-- Of two segments that do not meet some end is as near as any two of their points. -/
theorem ends_near {ax ay bx b_y cx cy ex ey : Int} (hs : sgB ax ay bx b_y = true) (ht : sgB cx cy ex ey = true) (hm : meetC ax ay bx b_y cx cy ex ey = false) (l m n : Int) (hn : 0 < n) (l0 : 0 ≤ l) (l1 : l ≤ n) (m0 : 0 ≤ m) (m1 : m ≤ n) :
    ∃ f : Int × Int, (f = farR ax ay bx b_y cx cy ∨ f = farR ax ay bx b_y ex ey ∨ f = farR cx cy ex ey ax ay ∨ f = farR cx cy ex ey bx b_y) ∧ f.1 * (n * n) ≤ gap (bx - ax) (b_y - ay) (ex - cx) (ey - cy) (cx - ax) (cy - ay) l m n * f.2 := by
  have hd := (sg_parts hs).2.2
  have hd2 := (sg_parts ht).2.2
  have step : ∃ l' m' n', 0 < n' ∧ 0 ≤ l' ∧ l' ≤ n' ∧ 0 ≤ m' ∧ m' ≤ n' ∧ (l' = 0 ∨ l' = n' ∨ m' = 0 ∨ m' = n') ∧ gap (bx - ax) (b_y - ay) (ex - cx) (ey - cy) (cx - ax) (cy - ay) l' m' n' * (n * n) ≤ gap (bx - ax) (b_y - ay) (ex - cx) (ey - cy) (cx - ax) (cy - ay) l m n * (n' * n') := by
    have hsp : ¬ (splB ax ay bx b_y cx cy ex ey = true ∧ splB cx cy ex ey ax ay bx b_y = true) := by
      rintro ⟨h1, h2⟩
      unfold meetC at hm
      rw [h1, h2] at hm
      simp at hm
    rw [spl_iff, spl_iff] at hsp
    have k1 : crs ax ay bx b_y cx cy = - ((cx - ax) * (b_y - ay) - (cy - ay) * (bx - ax)) := by unfold crs; grind
    have k2 : crs ax ay bx b_y ex ey = ((bx - ax) * (ey - cy) - (b_y - ay) * (ex - cx)) - ((cx - ax) * (b_y - ay) - (cy - ay) * (bx - ax)) := by unfold crs; grind
    have k3 : crs cx cy ex ey ax ay = (cx - ax) * (ey - cy) - (cy - ay) * (ex - cx) := by unfold crs; grind
    have k4 : crs cx cy ex ey bx b_y = ((cx - ax) * (ey - cy) - (cy - ay) * (ex - cx)) - ((bx - ax) * (ey - cy) - (b_y - ay) * (ex - cx)) := by unfold crs; grind
    rw [k1, k2, k3, k4] at hsp
    have hx : ((bx - ax) * (ey - cy) - (b_y - ay) * (ex - cx)) * (cx - ax) = ((cx - ax) * (ey - cy) - (cy - ay) * (ex - cx)) * (bx - ax) - ((cx - ax) * (b_y - ay) - (cy - ay) * (bx - ax)) * (ex - cx) := by grind
    have hy : ((bx - ax) * (ey - cy) - (b_y - ay) * (ex - cx)) * (cy - ay) = ((cx - ax) * (ey - cy) - (cy - ay) * (ex - cx)) * (b_y - ay) - ((cx - ax) * (b_y - ay) - (cy - ay) * (bx - ax)) * (ey - cy) := by grind
    have h0 : (bx - ax) * (ey - cy) - (b_y - ay) * (ex - cx) = 0 → 0 < ((bx - ax) * (ex - cx) + (b_y - ay) * (ey - cy)) ∨ ((bx - ax) * (ex - cx) + (b_y - ay) * (ey - cy)) < 0 := by
      intro hk
      have p1 := dt_self_pos hd
      have p2 := dt_self_pos hd2
      have p3 := Int.mul_pos p1 p2
      have e : dt ax ay bx b_y bx b_y * dt cx cy ex ey ex ey = ((bx - ax) * (ex - cx) + (b_y - ay) * (ey - cy)) * ((bx - ax) * (ex - cx) + (b_y - ay) * (ey - cy)) := by unfold dt; grind
      have hne : ((bx - ax) * (ex - cx) + (b_y - ay) * (ey - cy)) ≠ 0 := by
        intro h0
        rw [h0] at e
        omega
      omega
    have w1 : (bx - ax) * (ey - cy) - (b_y - ay) * (ex - cx) = 0 → ((bx - ax) * (ex - cx) + (b_y - ay) * (ey - cy)) * (bx - ax) = ((bx - ax) * (bx - ax) + (b_y - ay) * (b_y - ay)) * (ex - cx) := by intro hk; grind
    have w2 : (bx - ax) * (ey - cy) - (b_y - ay) * (ex - cx) = 0 → ((bx - ax) * (ex - cx) + (b_y - ay) * (ey - cy)) * (b_y - ay) = ((bx - ax) * (bx - ax) + (b_y - ay) * (b_y - ay)) * (ey - cy) := by intro hk; grind
    generalize (bx - ax) * (ey - cy) - (b_y - ay) * (ex - cx) = K at *
    generalize (cx - ax) * (ey - cy) - (cy - ay) * (ex - cx) = al at *
    generalize (cx - ax) * (b_y - ay) - (cy - ay) * (bx - ax) = be at *
    generalize (bx - ax) * (ex - cx) + (b_y - ay) * (ey - cy) = P at *
    generalize (bx - ax) * (bx - ax) + (b_y - ay) * (b_y - ay) = Q at *
    clear k1 k2 k3 k4 hm
    rcases Int.lt_trichotomy K 0 with hk | hk | hk
    · exact gap_any _ _ _ _ _ _ (-K) (-al) (-be) l m n (by grind) (by grind) (by omega) (by omega) l0 l1 m0 m1 hn
    · rcases h0 hk with hP | hP
      · exact gap_any _ _ _ _ _ _ 0 (-P) (-Q) l m n (by have := w1 hk; grind) (by have := w2 hk; grind) (by omega) (by omega) l0 l1 m0 m1 hn
      · exact gap_any _ _ _ _ _ _ 0 P Q l m n (by have := w1 hk; grind) (by have := w2 hk; grind) (by omega) (by omega) l0 l1 m0 m1 hn
    · exact gap_any _ _ _ _ _ _ K al be l m n hx hy (by omega) (by omega) l0 l1 m0 m1 hn
  obtain ⟨l', m', n', a1, a2, a3, a4, a5, a6, a7⟩ := step
  obtain ⟨f, hf, h⟩ := gap_first hs ht l' m' n' a1 a2 a3 a4 a5 a6
  refine ⟨f, hf, ?_⟩
  have hf2 : 0 < f.2 := by
    rcases hf with e | e | e | e <;> rw [e]
    · exact (farR_pos _ _ hd).2
    · exact (farR_pos _ _ hd).2
    · exact (farR_pos _ _ hd2).2
    · exact (farR_pos _ _ hd2).2
  have hnn : 0 < n' * n' := Int.mul_pos a1 a1
  refine Int.le_of_mul_le_mul_left (a := n' * n') ?_ hnn
  have t1 := Int.mul_le_mul_of_nonneg_right h (show 0 ≤ n * n by exact sq_nonneg n)
  have t2 := Int.mul_le_mul_of_nonneg_right a7 (show 0 ≤ f.2 by omega)
  generalize gap (bx - ax) (b_y - ay) (ex - cx) (ey - cy) (cx - ax) (cy - ay) l' m' n' = W' at *
  generalize gap (bx - ax) (b_y - ay) (ex - cx) (ey - cy) (cx - ax) (cy - ay) l m n = W at *
  grind
/-- No point that a segment has is nearer to another one than both are. -/
theorem apart_far {ax ay bx b_y cx cy ex ey qx qy : Int} (hs : sgB ax ay bx b_y = true) (ht : sgB cx cy ex ey = true) (hp : ptB qx qy = true) (hq : hasC ax ay bx b_y qx qy = true) : LeF (apart ax ay bx b_y cx cy ex ey) (far cx cy ex ey qx qy) := by
  have hd := (sg_parts hs).2.2
  have hd2 := (sg_parts ht).2.2
  have fp := far_pos ht hp
  cases hm : meetC ax ay bx b_y cx cy ex ey
  · obtain ⟨o1, o2, o3, o4⟩ := four_ok hs ht
    have hL := apart_least hs ht hm
    have oA := hL.ok o1 o2 o3 o4
    obtain ⟨q1, q2, q3⟩ := (has_along hd).1 hq
    have hD := dt_self_pos hd
    have hE := dt_self_pos hd2
    have goalR : (apart ax ay bx b_y cx cy ex ey).1 * (farR cx cy ex ey qx qy).2 ≤ (farR cx cy ex ey qx qy).1 * (apart ax ay bx b_y cx cy ex ey).2 := by
      have via : ∀ {f r : Int × Int}, LeF (apart ax ay bx b_y cx cy ex ey) f → OkF f → f.1 * r.2 = r.1 * f.2 → 0 < r.2 → r.1 * (farR cx cy ex ey qx qy).2 ≤ (farR cx cy ex ey qx qy).1 * r.2 → (apart ax ay bx b_y cx cy ex ey).1 * (farR cx cy ex ey qx qy).2 ≤ (farR cx cy ex ey qx qy).1 * (apart ax ay bx b_y cx cy ex ey).2 := by
        intro f r h1 hf e hr h2
        have h3 := raw_le e hr hf.pos.2 h2
        have p := (farR_pos qx qy hd2).2
        have pA := oA.pos
        unfold LeF at h1
        generalize apart ax ay bx b_y cx cy ex ey = A at *
        generalize farR cx cy ex ey qx qy = R at *
        refine Int.le_of_mul_le_mul_left (a := f.2) ?_ hf.pos.2
        have t1 := Int.mul_le_mul_of_nonneg_right h1 (show 0 ≤ R.2 by omega)
        have t2 := Int.mul_le_mul_of_nonneg_right h3 (show 0 ≤ A.2 by omega)
        grind
      have sides : ∀ {r : Int × Int}, (r = farR ax ay bx b_y cx cy ∨ r = farR ax ay bx b_y ex ey ∨ r = farR cx cy ex ey ax ay ∨ r = farR cx cy ex ey bx b_y) → r.1 * (farR cx cy ex ey qx qy).2 ≤ (farR cx cy ex ey qx qy).1 * r.2 → (apart ax ay bx b_y cx cy ex ey).1 * (farR cx cy ex ey qx qy).2 ≤ (farR cx cy ex ey qx qy).1 * (apart ax ay bx b_y cx cy ex ey).2 := by
        intro r hr h
        rcases hr with e | e | e | e <;> rw [e] at h
        · exact via hL.2.1 o1 (far_raw hs (sg_parts ht).1) (farR_pos _ _ hd).2 h
        · exact via hL.2.2.1 o2 (far_raw hs (sg_parts ht).2.1) (farR_pos _ _ hd).2 h
        · exact via hL.2.2.2.1 o3 (far_raw ht (sg_parts hs).1) (farR_pos _ _ hd2).2 h
        · exact via hL.2.2.2.2 o4 (far_raw ht (sg_parts hs).2.1) (farR_pos _ _ hd2).2 h
      rcases farR_cases cx cy ex ey qx qy with ⟨k, e⟩ | ⟨_, k, e⟩ | ⟨k, k2, e⟩
      · refine sides (.inl rfl) ?_
        rw [e]
        have := farR_on ax ay bx b_y cx cy qx qy hd q1 q2 q3
        show _ * 1 ≤ dt cx cy qx qy qx qy * _
        omega
      · refine sides (.inr (.inl rfl)) ?_
        rw [e]
        have := farR_on ax ay bx b_y ex ey qx qy hd q1 q2 q3
        show _ * 1 ≤ dt ex ey qx qy qx qy * _
        omega
      · obtain ⟨f, hf, h⟩ := ends_near hs ht hm (dt ax ay bx b_y qx qy * dt cx cy ex ey ex ey) (dt cx cy ex ey qx qy * dt ax ay bx b_y bx b_y) (dt ax ay bx b_y bx b_y * dt cx cy ex ey ex ey) (Int.mul_pos hD hE) (Int.mul_nonneg q2 (by omega)) (Int.mul_le_mul_of_nonneg_right q3 (by omega)) (Int.mul_nonneg (by omega) (by omega)) (by rw [Int.mul_comm]; exact Int.mul_le_mul_of_nonneg_left (by omega) (by omega))
        refine sides hf ?_
        rw [e]
        show f.1 * dt cx cy ex ey ex ey ≤ crs cx cy ex ey qx qy * crs cx cy ex ey qx qy * f.2
        have x1 : dt ax ay bx b_y qx qy * (bx - ax) = dt ax ay bx b_y bx b_y * (qx - ax) := by unfold dt crs at *; grind
        have x2 : dt ax ay bx b_y qx qy * (b_y - ay) = dt ax ay bx b_y bx b_y * (qy - ay) := by unfold dt crs at *; grind
        have e1 : gap (bx - ax) (b_y - ay) (ex - cx) (ey - cy) (cx - ax) (cy - ay) (dt ax ay bx b_y qx qy * dt cx cy ex ey ex ey) (dt cx cy ex ey qx qy * dt ax ay bx b_y bx b_y) (dt ax ay bx b_y bx b_y * dt cx cy ex ey ex ey) = dt ax ay bx b_y bx b_y * dt ax ay bx b_y bx b_y * (dt cx cy ex ey ex ey * (crs cx cy ex ey qx qy * crs cx cy ex ey qx qy)) := by
          have y1 : dt ax ay bx b_y qx qy * dt cx cy ex ey ex ey * (bx - ax) - dt cx cy ex ey qx qy * dt ax ay bx b_y bx b_y * (ex - cx) - dt ax ay bx b_y bx b_y * dt cx cy ex ey ex ey * (cx - ax) = dt ax ay bx b_y bx b_y * (dt cx cy ex ey ex ey * (qx - cx) - dt cx cy ex ey qx qy * (ex - cx)) := by grind
          have y2 : dt ax ay bx b_y qx qy * dt cx cy ex ey ex ey * (b_y - ay) - dt cx cy ex ey qx qy * dt ax ay bx b_y bx b_y * (ey - cy) - dt ax ay bx b_y bx b_y * dt cx cy ex ey ex ey * (cy - ay) = dt ax ay bx b_y bx b_y * (dt cx cy ex ey ex ey * (qy - cy) - dt cx cy ex ey qx qy * (ey - cy)) := by grind
          unfold gap
          rw [y1, y2]
          have z : (dt cx cy ex ey ex ey * (qx - cx) - dt cx cy ex ey qx qy * (ex - cx)) * (dt cx cy ex ey ex ey * (qx - cx) - dt cx cy ex ey qx qy * (ex - cx)) + (dt cx cy ex ey ex ey * (qy - cy) - dt cx cy ex ey qx qy * (ey - cy)) * (dt cx cy ex ey ex ey * (qy - cy) - dt cx cy ex ey qx qy * (ey - cy)) = dt cx cy ex ey ex ey * (crs cx cy ex ey qx qy * crs cx cy ex ey qx qy) := by unfold dt crs; grind
          rw [← z]; grind
        rw [e1] at h
        clear e1 x1 x2 via sides hL
        generalize dt ax ay bx b_y bx b_y = D at *
        generalize dt cx cy ex ey ex ey = E at *
        generalize crs cx cy ex ey qx qy * crs cx cy ex ey qx qy = C at *
        have pp : 0 < D * D * E := Int.mul_pos (Int.mul_pos hD hD) hE
        refine Int.le_of_mul_le_mul_left (a := D * D * E) ?_ pp
        have r1 : D * D * E * (f.1 * E) = f.1 * (D * E * (D * E)) := by grind
        have r2 : D * D * E * (C * f.2) = D * D * (E * C) * f.2 := by grind
        rw [r1, r2]; exact h
    exact raw_ge (far_raw ht hp) (farR_pos _ _ hd2).2 fp.2 goalR
  · rw [apart_yes hm]
    unfold LeF
    show 0 * _ ≤ _ * 1
    omega
end Go.Proofs.YtfdnadiliedikaaDoor
