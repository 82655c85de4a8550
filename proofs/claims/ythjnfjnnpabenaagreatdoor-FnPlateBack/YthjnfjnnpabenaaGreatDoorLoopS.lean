/-
  OUR OWN TEXT. Sums over the edges of a loop: begun elsewhere, the other way about, on the other side; where a point is, the same. No program stands in it.
-/
import Derived.Test.YthjnfjnnpabenaaGreatDoorLoopT
namespace Go.Proofs.YthjnfjnnpabenaaGreatDoor

/-! ### Sums -/
theorem sumF_congr {f g : Nat → Int} {n : Nat} (h : ∀ i, i < n → f i = g i) : sumF f n = sumF g n := by
  induction n with
  | zero => rfl
  | succ n ih => simp only [sumF]; rw [ih (fun i hi => h i (by omega)), h n (by omega)]
theorem sumF_add (f g : Nat → Int) (n : Nat) : sumF (fun i => f i + g i) n = sumF f n + sumF g n := by
  induction n with
  | zero => rfl
  | succ n ih => simp only [sumF]; rw [ih]; omega
theorem sumF_neg (f : Nat → Int) (n : Nat) : sumF (fun i => - f i) n = - sumF f n := by
  induction n with
  | zero => rfl
  | succ n ih => simp only [sumF]; rw [ih]; omega
theorem sumF_mul (c : Int) (f : Nat → Int) (n : Nat) : sumF (fun i => c * f i) n = c * sumF f n := by
  induction n with
  | zero => simp [sumF]
  | succ n ih => simp only [sumF]; rw [ih]; grind
theorem sumF_split (f : Nat → Int) (a b : Nat) : sumF f (a + b) = sumF f a + sumF (fun i => f (a + i)) b := by
  induction b with
  | zero => simp [sumF]
  | succ b ih => rw [← Nat.add_assoc]; simp only [sumF]; rw [ih]; omega
theorem sumF_rot (F : Nat → Int) {n k : Nat} (hk : k ≤ n) : sumF (fun i => F ((i + k) % n)) n = sumF F n := by
  obtain ⟨m, rfl⟩ : ∃ m, n = m + k := ⟨n - k, by omega⟩
  have e1 := sumF_split (fun i => F ((i + k) % (m + k))) m k
  have e2 : sumF F (m + k) = sumF F k + sumF (fun i => F (k + i)) m := by rw [Nat.add_comm m k]; exact sumF_split F k m
  have h1 : sumF (fun i => F ((i + k) % (m + k))) m = sumF (fun i => F (k + i)) m := sumF_congr fun i hi => by
    rw [Nat.mod_eq_of_lt (by omega), Nat.add_comm]
  have h2 : sumF (fun i => F ((m + i + k) % (m + k))) k = sumF F k := sumF_congr fun i hi => by
    have : m + i + k = i + (m + k) := by omega
    rw [this, Nat.add_mod_right, Nat.mod_eq_of_lt (by omega)]
  omega
theorem sumF_rev (F : Nat → Int) (n : Nat) : sumF (fun i => F (n - 1 - i)) n = sumF F n := by
  induction n generalizing F with
  | zero => rfl
  | succ n ih =>
    have e : sumF F (n + 1) = F 0 + sumF (fun i => F (i + 1)) n := by
      have := sumF_split F 1 n
      rw [Nat.add_comm 1 n] at this
      rw [this]; simp [sumF, Nat.add_comm]
    rw [e, ← ih (fun i => F (i + 1))]
    simp only [sumF]
    have h0 : n + 1 - 1 - n = 0 := by omega
    rw [h0]
    have h1 : sumF (fun i => F (n + 1 - 1 - i)) n = sumF (fun i => F (n - 1 - i + 1)) n := sumF_congr fun i hi => by
      congr 1; omega
    rw [h1]; omega
theorem sumF_nxt (l : List P2) (F : Nat → Int) : sumF (fun i => F (nxt l i)) l.length = sumF F l.length := by
  rcases Nat.eq_zero_or_pos l.length with h | h
  · rw [h]; rfl
  · exact sumF_rot F (k := 1) h

/-! ### Sums over edges -/
def sumE (f : P2 → P2 → Int) (l : List P2) : Int := sumF (fun i => f (ptAt l i) (ptAt l (nxt l i))) l.length
theorem sumE_congr {f g : P2 → P2 → Int} {l : List P2} (h : ∀ i, i < l.length → f (ptAt l i) (ptAt l (nxt l i)) = g (ptAt l i) (ptAt l (nxt l i))) : sumE f l = sumE g l := sumF_congr h
theorem sumE_rot (f : P2 → P2 → Int) {l : List P2} {k : Nat} (hk : k < l.length) : sumE f (rot k l) = sumE f l := by
  unfold sumE
  rw [rot_len (by omega)]
  rw [← sumF_rot (fun i => f (ptAt l i) (ptAt l (nxt l i))) (n := l.length) (k := k) (by omega)]
  exact sumF_congr fun i hi => by rw [rot_at hk hi, rot_edge hk hi]
theorem sumE_rev (f : P2 → P2 → Int) (l : List P2) : sumE f l.reverse = sumE (fun a b => f b a) l := by
  unfold sumE
  rw [List.length_reverse]
  rw [← sumF_rev (fun i => f (ptAt l (nxt l i)) (ptAt l i))]
  rw [← sumF_nxt l (fun i => f (ptAt l (nxt l (l.length - 1 - i))) (ptAt l (l.length - 1 - i)))]
  exact sumF_congr fun i hi => by rw [rev_first hi, rev_last hi]; rfl
theorem sumE_map (f : P2 → P2 → Int) (g : P2 → P2) (l : List P2) : sumE f (l.map g) = sumE (fun a b => f (g a) (g b)) l := by
  unfold sumE
  rw [List.length_map]
  exact sumF_congr fun i hi => by rw [map_nxt, map_at hi, map_at (nxt_lt (by omega))]
/-- What goes forth and back is nothing. -/
theorem sumE_tele (g : P2 → Int) (l : List P2) : sumE (fun a b => g b - g a) l = 0 := by
  unfold sumE
  have h1 := sumF_add (fun i => g (ptAt l (nxt l i))) (fun i => - g (ptAt l i)) l.length
  have h2 := sumF_nxt l (fun i => g (ptAt l i))
  have h3 := sumF_neg (fun i => g (ptAt l i)) l.length
  have h4 : sumF (fun i => g (ptAt l (nxt l i)) - g (ptAt l i)) l.length = sumF (fun i => g (ptAt l (nxt l i)) + - g (ptAt l i)) l.length := sumF_congr fun i _ => by omega
  show sumF (fun i => g (ptAt l (nxt l i)) - g (ptAt l i)) l.length = 0
  omega
theorem sumE_add (f g : P2 → P2 → Int) (l : List P2) : sumE (fun a b => f a b + g a b) l = sumE f l + sumE g l := sumF_add _ _ _
theorem sumE_neg (f : P2 → P2 → Int) (l : List P2) : sumE (fun a b => - f a b) l = - sumE f l := sumF_neg _ _
theorem sumE_mul (c : Int) (f : P2 → P2 → Int) (l : List P2) : sumE (fun a b => c * f a b) l = c * sumE f l := sumF_mul _ _ _
theorem sumF_even {f : Nat → Int} {n : Nat} (h : ∀ i, i < n → f i % 2 = 0) : sumF f n % 2 = 0 := by
  induction n with
  | zero => rfl
  | succ n ih => simp only [sumF]; have := ih (fun i hi => h i (by omega)); have := h n (by omega); omega
/-- Two sums are both odd or both even, if what is apart is of the ends alone. -/
theorem sumE_even {f f' : P2 → P2 → Int} {g : P2 → Int} {l : List P2} (h : ∀ i, i < l.length → (f (ptAt l i) (ptAt l (nxt l i)) + f' (ptAt l i) (ptAt l (nxt l i)) + g (ptAt l i) + g (ptAt l (nxt l i))) % 2 = 0) :
    (sumE f l + sumE f' l) % 2 = 0 := by
  have h1 := sumF_even h
  have e1 := sumF_add (fun i => f (ptAt l i) (ptAt l (nxt l i)) + f' (ptAt l i) (ptAt l (nxt l i)) + g (ptAt l i)) (fun i => g (ptAt l (nxt l i))) l.length
  have e2 := sumF_add (fun i => f (ptAt l i) (ptAt l (nxt l i)) + f' (ptAt l i) (ptAt l (nxt l i))) (fun i => g (ptAt l i)) l.length
  have e3 := sumF_add (fun i => f (ptAt l i) (ptAt l (nxt l i))) (fun i => f' (ptAt l i) (ptAt l (nxt l i))) l.length
  have e4 := sumF_nxt l (fun i => g (ptAt l i))
  unfold sumE
  omega

/-! ### Twice the area -/
theorem sizeI_sum (l : List P2) : sizeI l = sumE (fun a b => crs 0 0 a.1 a.2 b.1 b.2) l := rfl
theorem sizeI_rot {l : List P2} {k : Nat} (hk : k < l.length) : sizeI (rot k l) = sizeI l := by rw [sizeI_sum, sizeI_sum, sumE_rot _ hk]
theorem sizeI_rev (l : List P2) : sizeI l.reverse = - sizeI l := by
  rw [sizeI_sum, sizeI_sum, sumE_rev, ← sumE_neg]
  exact sumE_congr fun i _ => crs_O_back _ _ _ _
theorem sizeI_swp (l : List P2) : sizeI (l.map swpP) = - sizeI l := by
  rw [sizeI_sum, sizeI_sum, sumE_map, ← sumE_neg]
  exact sumE_congr fun i _ => by simp only [swpP, crs]; grind
theorem sizeI_mir (l : List P2) : sizeI (l.map mirP) = - sizeI l := by
  rw [sizeI_sum, sizeI_sum, sumE_map]
  have h := sumE_tele (fun a => 9 * a.2) l
  have h2 := sumE_add (fun a b => - crs 0 0 a.1 a.2 b.1 b.2) (fun a b => 9 * b.2 - 9 * a.2) l
  rw [sumE_neg] at h2
  rw [h] at h2
  rw [Int.add_zero] at h2
  rw [← h2]
  exact sumE_congr fun i _ => by simp only [mirP, crs]; grind

/-! ### Where a point is -/
def b2i (b : Bool) : Int := if b then 1 else 0
theorem b2i_01 (b : Bool) : b2i b = 0 ∨ b2i b = 1 := by cases b <;> simp [b2i]
def cntP (l : List P2) (p : P2) : Int := sumE (fun a b => b2i (passP a b p)) l
theorem par_step (s : Int) (b : Bool) : (if b = true then -(if s % 2 = 0 then (-1 : Int) else 1) else (if s % 2 = 0 then -1 else 1)) = if (s + b2i b) % 2 = 0 then -1 else 1 := by
  cases b
  · simp [b2i]
  · by_cases h : s % 2 = 0
    · have : ¬ ((s + 1) % 2 = 0) := by omega
      simp [h, this, b2i]
    · have : (s + 1) % 2 = 0 := by omega
      simp [h, this, b2i]
theorem bne_sym (x y : Bool) : (x != y) = (y != x) := by cases x <;> cases y <;> rfl
theorem whereK_cnt (l : List P2) (p : P2) (k : Nat) : whereK l p k = if sumF (fun i => b2i (passP (ptAt l i) (ptAt l (nxt l i)) p)) k % 2 = 0 then -1 else 1 := by
  induction k with
  | zero => simp [whereK, sumF]
  | succ k ih =>
    simp only [whereK, sumF]
    rw [ih]
    unfold passE
    exact par_step _ _
def onL (l : List P2) (p : P2) : Bool := (List.range l.length).any (onE l p)
theorem onL_iff (l : List P2) (p : P2) : onL l p = true ↔ ∃ i, i < l.length ∧ hasP (ptAt l i) (ptAt l (nxt l i)) p = true := by
  simp [onL, onE, List.any_eq_true]
theorem onL_not {l : List P2} {p : P2} (h : onL l p = false) {i : Nat} (hi : i < l.length) : hasP (ptAt l i) (ptAt l (nxt l i)) p = false := by
  cases e : hasP (ptAt l i) (ptAt l (nxt l i)) p
  · rfl
  · rw [(onL_iff l p).2 ⟨i, hi, e⟩] at h; cases h
theorem inI_eq (l : List P2) (p : P2) : inI l p = if onL l p then 0 else if cntP l p % 2 = 0 then -1 else 1 := by
  unfold inI; rw [whereK_cnt]; rfl
theorem inI_of {l l' : List P2} {p p' : P2} (h1 : onL l' p' = onL l p) (h2 : onL l p = false → (cntP l' p' + cntP l p) % 2 = 0) : inI l' p' = inI l p := by
  rw [inI_eq, inI_eq, h1]
  cases h : onL l p
  · have := h2 h
    by_cases e : cntP l p % 2 = 0
    · have e' : cntP l' p' % 2 = 0 := by omega
      simp [e, e']
    · have e' : ¬ cntP l' p' % 2 = 0 := by omega
      simp [e, e']
  · rfl
theorem passP_back (a b p : P2) : passP b a p = passP a b p := by
  unfold passP
  by_cases h1 : a.2 > b.2
  · have h2 : ¬ b.2 > a.2 := by omega
    rw [if_pos h1, if_neg h2]
  · by_cases h2 : b.2 > a.2
    · rw [if_neg h1, if_pos h2]
    · rw [if_neg h1, if_neg h2]
      have e : a.2 = b.2 := by omega
      have x1 : (decide (b.2 ≤ p.2) && decide (p.2 < a.2)) = false := by rw [e]; by_cases h : b.2 ≤ p.2 <;> simp [h]
      have x2 : (decide (a.2 ≤ p.2) && decide (p.2 < b.2)) = false := by rw [e]; by_cases h : b.2 ≤ p.2 <;> simp [h]
      rw [x1, x2]; rfl
theorem onL_rot {l : List P2} {k : Nat} (hk : k < l.length) (p : P2) : onL (rot k l) p = onL l p := by
  have hl := rot_len (k := k) (l := l) (by omega)
  rw [Bool.eq_iff_iff, onL_iff, onL_iff]
  constructor
  · rintro ⟨i, hi, h⟩
    rw [hl] at hi
    rw [rot_at hk hi, rot_edge hk hi] at h
    exact ⟨_, Nat.mod_lt _ (by omega), h⟩
  · rintro ⟨j, hj, h⟩
    refine ⟨(j + (l.length - k)) % l.length, by rw [hl]; exact Nat.mod_lt _ (by omega), ?_⟩
    have hi : (j + (l.length - k)) % l.length < l.length := Nat.mod_lt _ (by omega)
    have e : ((j + (l.length - k)) % l.length + k) % l.length = j := by
      rw [Nat.mod_add_mod]
      have : j + (l.length - k) + k = j + l.length := by omega
      rw [this, Nat.add_mod_right, Nat.mod_eq_of_lt hj]
    rw [rot_at hk hi, rot_edge hk hi, e]; exact h
theorem inI_rot {l : List P2} {k : Nat} (hk : k < l.length) (p : P2) : inI (rot k l) p = inI l p :=
  inI_of (onL_rot hk p) fun _ => by unfold cntP; rw [sumE_rot _ hk]; omega
theorem onL_rev (l : List P2) (p : P2) : onL l.reverse p = onL l p := by
  have key : ∀ l : List P2, onL l.reverse p = true → onL l p = true := fun l h => by
    obtain ⟨i, hi, h⟩ := (onL_iff _ _).1 h
    rw [List.length_reverse] at hi
    rw [rev_first hi, rev_last hi, hasP_back] at h
    exact (onL_iff _ _).2 ⟨_, rvE_lt hi, h⟩
  rw [Bool.eq_iff_iff]
  exact ⟨key l, fun h => key l.reverse (by rw [List.reverse_reverse]; exact h)⟩
theorem inI_rev (l : List P2) (p : P2) : inI l.reverse p = inI l p :=
  inI_of (onL_rev l p) fun _ => by
    unfold cntP; rw [sumE_rev]
    have : sumE (fun a b => b2i (passP b a p)) l = sumE (fun a b => b2i (passP a b p)) l := sumE_congr fun i _ => by rw [passP_back]
    rw [this]; omega
theorem onL_map {f : P2 → P2} (hf : Side f) (l : List P2) (p : P2) : onL (l.map f) (f p) = onL l p := by
  rw [Bool.eq_iff_iff, onL_iff, onL_iff, List.length_map]
  constructor
  · rintro ⟨i, hi, h⟩
    rw [map_nxt, map_at hi, map_at (nxt_lt (by omega)), hf.has] at h
    exact ⟨i, hi, h⟩
  · rintro ⟨i, hi, h⟩
    refine ⟨i, hi, ?_⟩
    rw [map_nxt, map_at hi, map_at (nxt_lt (by omega)), hf.has]
    exact h
/-! #### On a segment, by heights -/
theorem has_of_between {ax ay bx b_y px py : Int} (hc : crs ax ay bx b_y px py = 0) (h1 : ay ≤ py) (h2 : py ≤ b_y) (hlt : ay < b_y) : hasC ax ay bx b_y px py = true := by
  rw [hasC_iff]
  refine ⟨hc, ?_⟩
  have e : dt px py ax ay bx b_y * ((b_y - ay) * (b_y - ay)) = - ((py - ay) * (b_y - py)) * ((b_y - ay) * (b_y - ay) + (bx - ax) * (bx - ax)) := by
    unfold dt crs at *; grind
  have p1 : 0 ≤ (py - ay) * (b_y - py) := Int.mul_nonneg (by omega) (by omega)
  have p2 : 0 < (b_y - ay) * (b_y - ay) := Int.mul_pos (by omega) (by omega)
  have p3 := sq_nonneg (bx - ax)
  have p4 : 0 ≤ (py - ay) * (b_y - py) * ((b_y - ay) * (b_y - ay) + (bx - ax) * (bx - ax)) := Int.mul_nonneg p1 (by omega)
  rcases Int.lt_or_le 0 (dt px py ax ay bx b_y) with h | h
  · have := Int.mul_pos h p2
    rw [e, Int.neg_mul] at this; omega
  · exact h
/-- .. the heights alone: the edge passes the height of the point. -/
def strad (a b p : P2) : Int := b2i (decide (a.2 ≤ p.2) != decide (b.2 ≤ p.2))
theorem pass_cases (a b p : P2) (h : a.2 ≤ b.2) : passP a b p = (decide (a.2 ≤ p.2) && decide (p.2 < b.2) && decide (0 < crs a.1 a.2 b.1 b.2 p.1 p.2)) := by
  unfold passP; rw [if_neg (by omega)]
theorem pass_side {a b p : P2} (h : hasP a b p = false) : b2i (passP a b p) + b2i (passP (mirP a) (mirP b) (mirP p)) = strad a b p := by
  have wlog : ∀ a b : P2, a.2 ≤ b.2 → hasP a b p = false → b2i (passP a b p) + b2i (passP (mirP a) (mirP b) (mirP p)) = strad a b p := fun a b hle h => by
    rw [pass_cases a b p hle, pass_cases (mirP a) (mirP b) (mirP p) hle]
    unfold strad
    simp only [mirP, crs_mir]
    by_cases h1 : a.2 ≤ p.2
    · by_cases h2 : p.2 < b.2
      · have hne : crs a.1 a.2 b.1 b.2 p.1 p.2 ≠ 0 := fun e => by
          have := has_of_between e h1 (by omega) (by omega)
          unfold hasP at h; rw [this] at h; cases h
        have h3 : ¬ b.2 ≤ p.2 := by omega
        rcases Int.lt_or_gt_of_ne hne with h4 | h4
        · have h5 : ¬ 0 < crs a.1 a.2 b.1 b.2 p.1 p.2 := by omega
          simp [h1, h2, h3, h4, h5, b2i]
        · have h5 : ¬ crs a.1 a.2 b.1 b.2 p.1 p.2 < 0 := by omega
          simp [h1, h2, h3, h4, h5, b2i]
      · have h3 : b.2 ≤ p.2 := by omega
        simp [h1, h2, h3, b2i]
    · have h3 : ¬ b.2 ≤ p.2 := by omega
      simp [h1, h3, b2i]
  rcases Int.le_total a.2 b.2 with hle | hle
  · exact wlog a b hle h
  · have := wlog b a hle (by rw [hasP_back]; exact h)
    rw [passP_back a b p, passP_back (mirP a) (mirP b) (mirP p)] at this
    rw [this]; unfold strad; rw [bne_sym]
theorem strad_tele (a b p : P2) : (strad a b p + b2i (decide (a.2 ≤ p.2)) + b2i (decide (b.2 ≤ p.2))) % 2 = 0 := by
  unfold strad; by_cases h1 : a.2 ≤ p.2 <;> by_cases h2 : b.2 ≤ p.2 <;> simp [h1, h2, b2i]
theorem inI_mir (l : List P2) (p : P2) : inI (l.map mirP) (mirP p) = inI l p :=
  inI_of (onL_map mir_side l p) fun hon => by
    unfold cntP
    rw [sumE_map, Int.add_comm]
    refine sumE_even (g := fun a => b2i (decide (a.2 ≤ p.2))) fun i hi => ?_
    have h1 := pass_side (onL_not hon hi)
    have h2 := strad_tele (ptAt l i) (ptAt l (nxt l i)) p
    omega
/-- In the corner up and to the right of the point. -/
def quad (p a : P2) : Int := b2i (decide (p.1 < a.1) && decide (p.2 < a.2))
theorem crs_rel (a b p : P2) : crs a.1 a.2 b.1 b.2 p.1 p.2 = (a.1 - p.1) * (b.2 - p.2) - (b.1 - p.1) * (a.2 - p.2) := by unfold crs; grind
theorem pass_quad {a b p : P2} (h : hasP a b p = false) : (b2i (passP a b p) + b2i (passP (swpP a) (swpP b) (swpP p)) + quad p a + quad p b) % 2 = 0 := by
  have wlog : ∀ a b : P2, a.2 ≤ b.2 → hasP a b p = false → (b2i (passP a b p) + b2i (passP (swpP a) (swpP b) (swpP p)) + quad p a + quad p b) % 2 = 0 := fun a b hle h => by
    have hr := crs_rel a b p
    rw [pass_cases a b p hle]
    have hsw : passP (swpP a) (swpP b) (swpP p) = if a.1 ≤ b.1 then (decide (a.1 ≤ p.1) && decide (p.1 < b.1) && decide (crs a.1 a.2 b.1 b.2 p.1 p.2 < 0)) else (decide (b.1 ≤ p.1) && decide (p.1 < a.1) && decide (0 < crs a.1 a.2 b.1 b.2 p.1 p.2)) := by
      by_cases hx : a.1 ≤ b.1
      · rw [if_pos hx, pass_cases _ _ _ hx]; unfold swpP; dsimp only; rw [crs_swap]
        congr 2; exact propext ⟨fun h => by omega, fun h => by omega⟩
      · rw [if_neg hx, ← passP_back, pass_cases _ _ _ (by unfold swpP; simp only; omega)]; unfold swpP; dsimp only; rw [crs_swap]
        congr 2
        rw [crs_back]; exact propext ⟨fun h => by omega, fun h => by omega⟩
    rw [hsw]
    unfold quad
    generalize hc : crs a.1 a.2 b.1 b.2 p.1 p.2 = c at *
    by_cases y1 : a.2 ≤ p.2
    · by_cases y2 : p.2 < b.2
      · have n1 : ¬ p.2 < a.2 := by omega
        have hne : c ≠ 0 := fun e => by
          rw [e] at hc
          have := has_of_between hc y1 (by omega) (by omega)
          unfold hasP at h; rw [this] at h; cases h
        by_cases x1 : a.1 ≤ p.1
        · by_cases x2 : p.1 < b.1
          · have n2 : ¬ p.1 < a.1 := by omega
            have n3 : a.1 ≤ b.1 := by omega
            rcases Int.lt_or_gt_of_ne hne with h4 | h4
            · have h5 : ¬ 0 < c := by omega
              simp [y1, y2, n1, n2, n3, x1, x2, h4, h5, b2i]
            · have h5 : ¬ c < 0 := by omega
              simp [y1, y2, n1, n2, n3, x1, x2, h4, h5, b2i]
          · have q1 : (a.1 - p.1) * (b.2 - p.2) ≤ 0 := Int.mul_nonpos_of_nonpos_of_nonneg (by omega) (by omega)
            have q2 : 0 ≤ (b.1 - p.1) * (a.2 - p.2) := Int.mul_nonneg_of_nonpos_of_nonpos (by omega) (by omega)
            have h5 : ¬ 0 < c := by omega
            have n2 : ¬ p.1 < a.1 := by omega
            simp [y1, y2, n1, n2, x2, h5, b2i]
        · by_cases x2 : p.1 < b.1
          · have q1 : 0 < (a.1 - p.1) * (b.2 - p.2) := Int.mul_pos (by omega) (by omega)
            have q2 : (b.1 - p.1) * (a.2 - p.2) ≤ 0 := Int.mul_nonpos_of_nonneg_of_nonpos (by omega) (by omega)
            have h5 : 0 < c := by omega
            have n2 : ¬ b.1 ≤ p.1 := by omega
            have n3 : p.1 < a.1 := by omega
            simp [y1, y2, n1, n2, n3, x1, x2, h5, b2i]
          · have n2 : b.1 ≤ p.1 := by omega
            have n3 : p.1 < a.1 := by omega
            have n4 : ¬ a.1 ≤ b.1 := by omega
            by_cases h4 : 0 < c
            · simp [y1, y2, n1, n2, n3, n4, x2, h4, b2i]
            · simp [y1, y2, n1, n2, n3, n4, x2, h4, b2i]
      · have n1 : ¬ p.2 < a.2 := by omega
        have n0 : ¬ (a.1 ≤ p.1 ∧ p.1 < b.1 ∧ c < 0) := fun ⟨k1, k2, k3⟩ => by
          have q1 : 0 ≤ (a.1 - p.1) * (b.2 - p.2) := Int.mul_nonneg_of_nonpos_of_nonpos (by omega) (by omega)
          have q2 : (b.1 - p.1) * (a.2 - p.2) ≤ 0 := Int.mul_nonpos_of_nonneg_of_nonpos (by omega) (by omega)
          omega
        have n5 : ¬ (b.1 ≤ p.1 ∧ p.1 < a.1 ∧ 0 < c) := fun ⟨k1, k2, k3⟩ => by
          have q1 : (a.1 - p.1) * (b.2 - p.2) ≤ 0 := Int.mul_nonpos_of_nonneg_of_nonpos (by omega) (by omega)
          have q2 : 0 ≤ (b.1 - p.1) * (a.2 - p.2) := Int.mul_nonneg_of_nonpos_of_nonpos (by omega) (by omega)
          omega
        by_cases hx : a.1 ≤ b.1
        · have : (decide (a.1 ≤ p.1) && decide (p.1 < b.1) && decide (c < 0)) = false := by
            rw [← Bool.not_eq_true]; simp only [Bool.and_eq_true, decide_eq_true_eq]; exact fun ⟨⟨k1, k2⟩, k3⟩ => n0 ⟨k1, k2, k3⟩
          simp [hx, this, n1, y2, b2i]
        · have : (decide (b.1 ≤ p.1) && decide (p.1 < a.1) && decide (0 < c)) = false := by
            rw [← Bool.not_eq_true]; simp only [Bool.and_eq_true, decide_eq_true_eq]; exact fun ⟨⟨k1, k2⟩, k3⟩ => n5 ⟨k1, k2, k3⟩
          simp [hx, this, n1, y2, b2i]
    · have y2 : p.2 < b.2 := by omega
      have y3 : p.2 < a.2 := by omega
      by_cases x1 : a.1 ≤ p.1
      · by_cases x2 : p.1 < b.1
        · have q1 : (a.1 - p.1) * (b.2 - p.2) ≤ 0 := Int.mul_nonpos_of_nonpos_of_nonneg (by omega) (by omega)
          have q2 : 0 < (b.1 - p.1) * (a.2 - p.2) := Int.mul_pos (by omega) (by omega)
          have h5 : c < 0 := by omega
          have n2 : ¬ p.1 < a.1 := by omega
          have n3 : a.1 ≤ b.1 := by omega
          simp [y1, y2, n2, n3, x1, x2, h5, b2i]
        · have n2 : ¬ p.1 < a.1 := by omega
          simp [y1, n2, x2, b2i]
      · by_cases x2 : p.1 < b.1
        · have n2 : ¬ b.1 ≤ p.1 := by omega
          have n3 : p.1 < a.1 := by omega
          simp [y1, y2, y3, n2, n3, x1, x2, b2i]
        · have n2 : b.1 ≤ p.1 := by omega
          have n3 : p.1 < a.1 := by omega
          have n4 : ¬ a.1 ≤ b.1 := by omega
          have q1 : 0 < (a.1 - p.1) * (b.2 - p.2) := Int.mul_pos (by omega) (by omega)
          have q2 : (b.1 - p.1) * (a.2 - p.2) ≤ 0 := Int.mul_nonpos_of_nonpos_of_nonneg (by omega) (by omega)
          have h5 : 0 < c := by omega
          simp [y1, y2, y3, n2, n3, n4, x2, h5, b2i]
  rcases Int.le_total a.2 b.2 with hle | hle
  · exact wlog a b hle h
  · have := wlog b a hle (by rw [hasP_back]; exact h)
    rw [passP_back a b p, passP_back (swpP a) (swpP b) (swpP p)] at this
    omega
theorem inI_swp (l : List P2) (p : P2) : inI (l.map swpP) (swpP p) = inI l p :=
  inI_of (onL_map swp_side l p) fun hon => by
    unfold cntP
    rw [sumE_map, Int.add_comm]
    refine sumE_even (g := quad p) fun i hi => ?_
    exact pass_quad (onL_not hon hi)
end Go.Proofs.YthjnfjnnpabenaaGreatDoor
