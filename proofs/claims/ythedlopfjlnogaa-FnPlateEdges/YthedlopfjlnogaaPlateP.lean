/-
  OUR OWN TEXT. Two loops that do not meet, seen from a point: what is in a hole is in the outer loop, and beyond the other hole. No program stands in it but its name.
-/
import Derived.Test.YthedlopfjlnogaaPlateI
namespace Go.Proofs.Ythedlopfjlnogaa

/-- As many times as large. -/
def sc (K : Int) (p : P2) : P2 := (K * p.1, K * p.2)
theorem crs_sc (K : Int) (a b c : P2) : crs (sc K a).1 (sc K a).2 (sc K b).1 (sc K b).2 (sc K c).1 (sc K c).2 = K * K * crs a.1 a.2 b.1 b.2 c.1 c.2 := by unfold crs sc; grind
theorem dt_sc (K : Int) (a b c : P2) : dt (sc K a).1 (sc K a).2 (sc K b).1 (sc K b).2 (sc K c).1 (sc K c).2 = K * K * dt a.1 a.2 b.1 b.2 c.1 c.2 := by unfold dt sc; grind
theorem pos_sc {K : Int} (hK : 0 < K) (x : Int) : (0 < K * x ↔ 0 < x) ∧ (K * x < 0 ↔ x < 0) ∧ (K * x = 0 ↔ x = 0) := by
  rcases Int.lt_trichotomy x 0 with h | h | h
  · have := Int.mul_neg_of_pos_of_neg hK h; omega
  · subst h; simp
  · have := Int.mul_pos hK h; omega
theorem le_sc {K : Int} (hK : 0 < K) (x y : Int) : K * x ≤ K * y ↔ x ≤ y := ⟨fun h => Int.le_of_mul_le_mul_left h hK, fun h => Int.mul_le_mul_of_nonneg_left h (by omega)⟩
theorem hasP_sc {K : Int} (hK : 0 < K) (a b p : P2) : hasP (sc K a) (sc K b) (sc K p) = hasP a b p := by
  unfold hasP
  rw [Bool.eq_iff_iff, hasC_iff, hasC_iff, crs_sc, dt_sc]
  have h2 := Int.mul_pos hK hK
  have p1 := pos_sc h2 (crs a.1 a.2 b.1 b.2 p.1 p.2)
  have p2 := pos_sc h2 (dt p.1 p.2 a.1 a.2 b.1 b.2)
  omega
theorem splB_sc {K : Int} (hK : 0 < K) (a b c d : P2) : splB (sc K a).1 (sc K a).2 (sc K b).1 (sc K b).2 (sc K c).1 (sc K c).2 (sc K d).1 (sc K d).2 = splB a.1 a.2 b.1 b.2 c.1 c.2 d.1 d.2 := by
  rw [Bool.eq_iff_iff, spl_iff, spl_iff, crs_sc, crs_sc]
  have h2 := Int.mul_pos hK hK
  have p1 := pos_sc h2 (crs a.1 a.2 b.1 b.2 c.1 c.2)
  have p2 := pos_sc h2 (crs a.1 a.2 b.1 b.2 d.1 d.2)
  omega
theorem meetP_sc {K : Int} (hK : 0 < K) (a b c d : P2) : meetP (sc K a) (sc K b) (sc K c) (sc K d) = meetP a b c d := by
  unfold meetP
  rw [meet_alt0, meet_alt0, splB_sc hK, splB_sc hK]
  have h1 := hasP_sc hK a b c
  have h2 := hasP_sc hK a b d
  have h3 := hasP_sc hK c d a
  have h4 := hasP_sc hK c d b
  unfold hasP at h1 h2 h3 h4
  rw [h1, h2, h3, h4]
theorem passP_sc {K : Int} (hK : 0 < K) (a b p : P2) : passP (sc K a) (sc K b) (sc K p) = passP a b p := by
  have l1 := le_sc hK
  have e1 : ∀ a b : P2, (decide ((sc K a).2 ≤ (sc K p).2) && decide ((sc K p).2 < (sc K b).2) && decide (0 < crs (sc K a).1 (sc K a).2 (sc K b).1 (sc K b).2 (sc K p).1 (sc K p).2)) = (decide (a.2 ≤ p.2) && decide (p.2 < b.2) && decide (0 < crs a.1 a.2 b.1 b.2 p.1 p.2)) := by
    intro a b
    rw [crs_sc]
    have p1 := pos_sc (Int.mul_pos hK hK) (crs a.1 a.2 b.1 b.2 p.1 p.2)
    have i1 : ((sc K a).2 ≤ (sc K p).2) ↔ a.2 ≤ p.2 := l1 _ _
    have i2 : ((sc K p).2 < (sc K b).2) ↔ p.2 < b.2 := by have := l1 b.2 p.2; unfold sc; dsimp only; omega
    simp only [i1, i2, p1.1]
  have i3 : ((sc K a).2 > (sc K b).2) ↔ a.2 > b.2 := by have := l1 a.2 b.2; unfold sc; dsimp only; omega
  unfold passP
  simp only [i3]
  split
  · exact e1 b a
  · exact e1 a b
theorem sc_ne {K : Int} (hK : 0 < K) {a b : P2} (h : a ≠ b) : sc K a ≠ sc K b := by
  intro e
  apply h
  have e1 : K * a.1 = K * b.1 := congrArg Prod.fst e
  have e2 : K * a.2 = K * b.2 := congrArg Prod.snd e
  exact Prod.ext (Int.eq_of_mul_eq_mul_left (by omega) e1) (Int.eq_of_mul_eq_mul_left (by omega) e2)
theorem apL_sc {K : Int} (hK : 0 < K) {a b : List P2} (h : apL a b = true) : apL (a.map (sc K)) (b.map (sc K)) = true := by
  rw [apL_iff] at h ⊢
  simp only [List.length_map, map_nxt]
  intro i hi k hk
  rw [map_at hi, map_at hk, map_at (nxt_lt (by omega)), map_at (nxt_lt (by omega)), meetP_sc hK]; exact h i hi k hk
theorem edgy_sc {K : Int} (hK : 0 < K) {a : List P2} (h : Edgy a) : Edgy (a.map (sc K)) := by
  intro i hi
  rw [List.length_map] at hi
  rw [map_nxt, map_at hi, map_at (nxt_lt (by omega))]
  exact sc_ne hK (h i hi)
theorem onL_sc {K : Int} (hK : 0 < K) (l : List P2) (p : P2) : onL (l.map (sc K)) (sc K p) = onL l p := by
  rw [Bool.eq_iff_iff, onL_iff, onL_iff, List.length_map]
  constructor
  · rintro ⟨i, hi, h⟩
    rw [map_nxt, map_at hi, map_at (nxt_lt (by omega)), hasP_sc hK] at h
    exact ⟨i, hi, h⟩
  · rintro ⟨i, hi, h⟩
    refine ⟨i, hi, ?_⟩
    rw [map_nxt, map_at hi, map_at (nxt_lt (by omega)), hasP_sc hK]
    exact h
theorem inI_sc {K : Int} (hK : 0 < K) (l : List P2) (p : P2) : inI (l.map (sc K)) (sc K p) = inI l p := by
  have : cntP (l.map (sc K)) (sc K p) = cntP l p := by
    unfold cntP; rw [sumE_map]; exact sumE_congr fun i _ => by rw [passP_sc hK]
  rw [inI_eq, inI_eq, onL_sc hK, this]

/-! ### Where an edge passes a height -/
def lo (a b : P2) : P2 := if a.2 > b.2 then b else a
def hi (a b : P2) : P2 := if a.2 > b.2 then a else b
/-- The edge passes the height. -/
def stB (a b : P2) (y : Int) : Bool := decide ((lo a b).2 ≤ y) && decide (y < (hi a b).2)
/-- How high it is; where it passes, as many times. -/
def dE (a b : P2) : Int := (hi a b).2 - (lo a b).2
def xE (a b : P2) (y : Int) : Int := (lo a b).1 * dE a b + ((hi a b).1 - (lo a b).1) * (y - (lo a b).2)
theorem stB_iff (a b : P2) (y : Int) : stB a b y = true ↔ (lo a b).2 ≤ y ∧ y < (hi a b).2 := by unfold stB; simp
theorem pass_st (a b p : P2) : passP a b p = true ↔ stB a b p.2 = true ∧ dE a b * p.1 < xE a b p.2 := by
  have e : passP a b p = (decide ((lo a b).2 ≤ p.2) && decide (p.2 < (hi a b).2) && decide (0 < crs (lo a b).1 (lo a b).2 (hi a b).1 (hi a b).2 p.1 p.2)) := by
    unfold passP lo hi; split <;> rfl
  rw [e, stB_iff]
  simp only [Bool.and_eq_true, decide_eq_true_eq]
  have : crs (lo a b).1 (lo a b).2 (hi a b).1 (hi a b).2 p.1 p.2 = xE a b p.2 - dE a b * p.1 := by unfold crs xE dE; grind
  rw [this]
  omega
theorem dE_pos {a b : P2} {y : Int} (h : stB a b y = true) : 0 < dE a b := by rw [stB_iff] at h; unfold dE; omega
theorem lohi_has (a b p : P2) : hasP (lo a b) (hi a b) p = hasP a b p := by
  unfold lo hi; split
  · exact hasP_back _ _ _
  · rfl
theorem lo_sc {K : Int} (hK : 0 < K) (a b : P2) : lo (sc K a) (sc K b) = sc K (lo a b) ∧ hi (sc K a) (sc K b) = sc K (hi a b) := by
  have i3 : ((sc K a).2 > (sc K b).2) ↔ a.2 > b.2 := by have := le_sc hK a.2 b.2; unfold sc; dsimp only; omega
  unfold lo hi
  simp only [i3]
  constructor <;> split <;> rfl
theorem dE_sc {K : Int} (hK : 0 < K) (a b : P2) : dE (sc K a) (sc K b) = K * dE a b := by
  unfold dE; rw [(lo_sc hK a b).1, (lo_sc hK a b).2]; unfold sc; grind
theorem xE_sc {K : Int} (hK : 0 < K) (a b : P2) (y : Int) : xE (sc K a) (sc K b) (K * y) = K * (K * xE a b y) := by
  unfold xE; rw [dE_sc hK, (lo_sc hK a b).1, (lo_sc hK a b).2]; unfold sc; dsimp only; grind
theorem stB_sc {K : Int} (hK : 0 < K) (a b : P2) (y : Int) : stB (sc K a) (sc K b) (K * y) = stB a b y := by
  rw [Bool.eq_iff_iff, stB_iff, stB_iff, (lo_sc hK a b).1, (lo_sc hK a b).2]
  have h1 := le_sc hK (lo a b).2 y
  have h2 := le_sc hK (hi a b).2 y
  unfold sc; dsimp only; omega
/-- The point where an edge passes, scaled, is on the scaled edge. -/
theorem has_at {a b : P2} {y M : Int} (hM : 0 < M) (h : stB a b y = true) : hasP (sc (dE a b * M) a) (sc (dE a b * M) b) (M * xE a b y, dE a b * M * y) = true := by
  have hD := dE_pos h
  have hK := Int.mul_pos hD hM
  rw [← lohi_has, (lo_sc hK a b).1, (lo_sc hK a b).2]
  rw [stB_iff] at h
  unfold hasP
  refine has_of_between ?_ ?_ ?_ ?_
  · unfold xE sc dE crs; dsimp only; grind
  · exact (le_sc hK _ _).2 h.1
  · exact (le_sc hK _ _).2 (by omega)
  · have := le_sc hK (hi a b).2 (lo a b).2; unfold sc; dsimp only; unfold dE at *; omega
/-- The second edge passes right of where the first one does. -/
def rB (y : Int) (a b c d : P2) : Bool := stB c d y && decide (dE c d * xE a b y < dE a b * xE c d y)
theorem pass_at {a b c d : P2} {y : Int} (h : stB a b y = true) : passP (sc (dE a b) c) (sc (dE a b) d) (xE a b y, dE a b * y) = rB y a b c d := by
  have hD := dE_pos h
  rw [Bool.eq_iff_iff, pass_st]
  unfold rB
  rw [stB_sc hD, Bool.and_eq_true, decide_eq_true_eq, dE_sc hD, xE_sc hD]
  have e : dE a b * dE c d * xE a b y = dE a b * (dE c d * xE a b y) := by grind
  rw [e]
  have := le_sc hD (dE a b * xE c d y) (dE c d * xE a b y)
  constructor <;> rintro ⟨h1, h2⟩ <;> exact ⟨h1, by omega⟩
/-- Two edges that do not meet, and pass a height: one of them is right of the other one. -/
theorem r_one {a b c d : P2} {y : Int} (hab : a ≠ b) (hcd : c ≠ d) (hm : meetP a b c d = false) (h1 : stB a b y = true) (h2 : stB c d y = true) : b2i (rB y a b c d) + b2i (rB y c d a b) = 1 := by
  have d1 := dE_pos h1
  have d2 := dE_pos h2
  have hne : dE c d * xE a b y ≠ dE a b * xE c d y := by
    intro e
    have hK := Int.mul_pos d1 d2
    have k1 := has_at d2 h1
    have k2 := has_at d1 h2
    rw [e, Int.mul_comm (dE c d) (dE a b)] at *
    have := common_meet (sc_ne hK hab) (sc_ne hK hcd) k1 k2
    rw [meetP_sc hK, hm] at this
    cases this
  unfold rB
  rw [h1, h2, Bool.true_and, Bool.true_and]
  rcases Int.lt_or_gt_of_ne hne with h | h
  · rw [decide_eq_true h, decide_eq_false (by omega)]; rfl
  · rw [decide_eq_false (by omega), decide_eq_true (by omega)]; rfl
theorem r_pair {a b c d p : P2} (hab : a ≠ b) (hcd : c ≠ d) (hm : meetP a b c d = false) :
    b2i (passP a b p) * b2i (rB p.2 a b c d) + b2i (passP c d p) * b2i (rB p.2 c d a b) = b2i (passP a b p) * b2i (passP c d p) := by
  have imp : ∀ a b c d : P2, passP a b p = true → rB p.2 a b c d = true → passP c d p = true := by
    intro a b c d h1 h2
    rw [pass_st] at h1 ⊢
    unfold rB at h2
    rw [Bool.and_eq_true, decide_eq_true_eq] at h2
    refine ⟨h2.1, ?_⟩
    have d1 := dE_pos h1.1
    have d2 := dE_pos h2.1
    have t := Int.mul_lt_mul_of_pos_left h1.2 d2
    have e : dE c d * (dE a b * p.1) = dE a b * (dE c d * p.1) := by grind
    rw [e] at t
    exact Int.lt_of_mul_lt_mul_left (Int.lt_trans t h2.2) (by omega)
  cases h1 : passP a b p
  · cases h2 : passP c d p
    · simp [b2i]
    · cases h3 : rB p.2 c d a b
      · simp [b2i]
      · have := imp c d a b h2 h3; rw [h1] at this; cases this
  · cases h2 : passP c d p
    · cases h3 : rB p.2 a b c d
      · simp [b2i]
      · have := imp a b c d h1 h3; rw [h2] at this; cases this
    · have := r_one (y := p.2) hab hcd hm ((pass_st _ _ _).1 h1).1 ((pass_st _ _ _).1 h2).1
      have o : b2i true = 1 := rfl
      rw [o]; omega
/-! ### Sums over pairs -/
theorem sumF_swap (g : Nat → Nat → Int) (m n : Nat) : sumF (fun i => sumF (g i) n) m = sumF (fun j => sumF (fun i => g i j) m) n := by
  induction m with
  | zero =>
    have : ∀ n, sumF (fun _ => (0 : Int)) n = 0 := fun n => by induction n with
      | zero => rfl
      | succ n ih => show sumF _ n + 0 = 0; rw [ih]; rfl
    exact (this n).symm
  | succ m ih =>
    show sumF _ m + sumF (g m) n = sumF (fun j => sumF (fun i => g i j) m + g m j) n
    rw [sumF_add, ih]
theorem sumF_prod (x y : Nat → Int) (m n : Nat) : sumF (fun i => sumF (fun j => x i * y j) n) m = sumF x m * sumF y n := by
  have : (fun i => sumF (fun j => x i * y j) n) = fun i => sumF y n * x i := by funext i; rw [sumF_mul, Int.mul_comm]
  rw [this, sumF_mul, Int.mul_comm]
theorem sumF_pairs {x y : Nat → Int} {r s : Nat → Nat → Int} {m n : Nat} (h : ∀ i, i < m → ∀ j, j < n → x i * r i j + y j * s j i = x i * y j) :
    sumF (fun i => x i * sumF (r i) n) m + sumF (fun j => y j * sumF (s j) m) n = sumF x m * sumF y n := by
  have e1 : sumF (fun i => x i * sumF (r i) n) m = sumF (fun i => sumF (fun j => x i * r i j) n) m := sumF_congr fun i _ => (sumF_mul _ _ _).symm
  have e2 : sumF (fun j => y j * sumF (s j) m) n = sumF (fun i => sumF (fun j => y j * s j i) n) m := by
    rw [sumF_swap]; exact sumF_congr fun j _ => (sumF_mul _ _ _).symm
  rw [e1, e2, ← sumF_add, ← sumF_prod]
  refine sumF_congr fun i hi => ?_
  rw [← sumF_add]
  exact sumF_congr fun j hj => h i hi j hj
theorem sumF_mod {x s : Nat → Int} {β : Int} {m : Nat} (h : ∀ i, i < m → x i = 0 ∨ (x i = 1 ∧ s i % 2 = β % 2)) : sumF (fun i => x i * s i) m % 2 = (β * sumF x m) % 2 := by
  rw [← sumF_mul]
  have := sumF_even (f := fun i => x i * s i + - (β * x i)) (n := m) (fun i hi => by
    rcases h i hi with e | ⟨e, e2⟩
    · simp [e]
    · simp only [e, Int.one_mul, Int.mul_one]; omega)
  rw [sumF_add, sumF_neg] at this
  omega
/-- Is a corner of the second loop in the first one? As a number. -/
def innN (a b : List P2) : Int := if inI a (ptAt b 0) = 1 then 1 else 0
/-- TWO LOOPS THAT DO NOT MEET, seen from any point. -/
theorem two_loops {a b : List P2} (ha : Edgy a) (hb : Edgy b) (hm : apL a b = true) (p : P2) : (cntP a p * cntP b p) % 2 = (innN b a * cntP a p + innN a b * cntP b p) % 2 := by
  have hm' : apL b a = true := by rw [apL_comm]; exact hm
  have key : ∀ a b : List P2, Edgy a → Edgy b → apL b a = true → ∀ i, i < a.length →
      b2i (passP (ptAt a i) (ptAt a (nxt a i)) p) = 0 ∨ (b2i (passP (ptAt a i) (ptAt a (nxt a i)) p) = 1 ∧ sumF (fun j => b2i (rB p.2 (ptAt a i) (ptAt a (nxt a i)) (ptAt b j) (ptAt b (nxt b j)))) b.length % 2 = innN b a % 2) := by
    intro a b ha hb hm i hi
    cases hp : passP (ptAt a i) (ptAt a (nxt a i)) p
    · exact .inl rfl
    · right
      refine ⟨rfl, ?_⟩
      have hst := ((pass_st _ _ _).1 hp).1
      have hD := dE_pos hst
      have h1 := has_at (M := 1) (by omega) hst
      rw [Int.mul_one, Int.one_mul] at h1
      have hon : onL (a.map (sc (dE (ptAt a i) (ptAt a (nxt a i))))) (xE (ptAt a i) (ptAt a (nxt a i)) p.2, dE (ptAt a i) (ptAt a (nxt a i)) * p.2) = true := by
        rw [onL_iff]
        refine ⟨i, by rw [List.length_map]; exact hi, ?_⟩
        rw [map_nxt, map_at hi, map_at (nxt_lt (by omega))]; exact h1
      have hs := edge_side (edgy_sc hD hb) (edgy_sc hD ha) (apL_sc hD hm) hon
      rw [map_at (by omega), inI_sc hD] at hs
      have hc : cntP (b.map (sc (dE (ptAt a i) (ptAt a (nxt a i))))) (xE (ptAt a i) (ptAt a (nxt a i)) p.2, dE (ptAt a i) (ptAt a (nxt a i)) * p.2) = sumF (fun j => b2i (rB p.2 (ptAt a i) (ptAt a (nxt a i)) (ptAt b j) (ptAt b (nxt b j)))) b.length := by
        unfold cntP
        rw [sumE_map]
        exact sumF_congr fun j _ => by dsimp only; rw [pass_at hst]
      rw [← hc]
      have he := inI_eq (b.map (sc (dE (ptAt a i) (ptAt a (nxt a i))))) (xE (ptAt a i) (ptAt a (nxt a i)) p.2, dE (ptAt a i) (ptAt a (nxt a i)) * p.2)
      rw [hs.2, hs.1] at he
      simp only [Bool.false_eq_true, if_false] at he
      unfold innN
      rw [he]
      split <;> simp <;> omega
  have hpairs := sumF_pairs (m := a.length) (n := b.length) (x := fun i => b2i (passP (ptAt a i) (ptAt a (nxt a i)) p)) (y := fun j => b2i (passP (ptAt b j) (ptAt b (nxt b j)) p))
    (r := fun i j => b2i (rB p.2 (ptAt a i) (ptAt a (nxt a i)) (ptAt b j) (ptAt b (nxt b j)))) (s := fun j i => b2i (rB p.2 (ptAt b j) (ptAt b (nxt b j)) (ptAt a i) (ptAt a (nxt a i))))
    (fun i hi j hj => r_pair (ha i hi) (hb j hj) ((apL_iff a b).1 hm i hi j hj))
  have m1 := sumF_mod (key a b ha hb hm')
  have m2 := sumF_mod (key b a hb ha hm)
  have c1 : cntP a p = sumF (fun i => b2i (passP (ptAt a i) (ptAt a (nxt a i)) p)) a.length := rfl
  have c2 : cntP b p = sumF (fun j => b2i (passP (ptAt b j) (ptAt b (nxt b j)) p)) b.length := rfl
  rw [c1, c2, ← hpairs]
  omega
theorem inI_odd {l : List P2} {p : P2} (h : inI l p = 1) : cntP l p % 2 = 1 := by
  rw [inI_eq] at h
  split at h
  · omega
  · split at h <;> omega
/-- What is in a loop that is in another one is in that one. -/
theorem in_in_in {o h : List P2} {p : P2} (ho : okV o = true) (hh : okV h = true) (ha : arB o h = true) (hp : inI h p = 1) : inI o p = 1 := by
  rw [arB_iff] at ha
  have z1 := okV_pos ho
  have z2 := okV_pos hh
  have nb := not_both (by omega) (by omega) ha.1 ha.2 0 (by omega)
  have t := two_loops (okV_edgy ho) (okV_edgy hh) ha.1 p
  have n1 : innN o h = 1 := by unfold innN; rw [if_pos ha.2]
  have n2 : innN h o = 0 := by unfold innN; rw [nb]; rfl
  rw [n1, n2, Int.zero_mul, Int.one_mul, Int.zero_add, Int.mul_emod, inI_odd hp] at t
  have hoff : onL o p = false := by
    rw [Bool.eq_false_iff]; intro hon
    have := (on_side hh ho (by rw [apL_comm]; exact ha.1) hon).1
    rw [nb] at this; omega
  rw [inI_eq, hoff]
  have : cntP o p % 2 = 1 := by
    rcases (show cntP o p % 2 = 0 ∨ cntP o p % 2 = 1 by omega) with e | e
    · rw [e] at t; simp at t
    · exact e
  simp [this]
/-- What is in a loop is beyond one that is beyond it. -/
theorem in_beyond {a b : List P2} {p : P2} (ha : okV a = true) (hb : okV b = true) (h : beB a b = true) (hp : inI a p = 1) : inI b p = -1 := by
  rw [beB_iff] at h
  have t := two_loops (okV_edgy ha) (okV_edgy hb) h.1 p
  have n1 : innN a b = 0 := by unfold innN; rw [h.2.1]; rfl
  have n2 : innN b a = 0 := by unfold innN; rw [h.2.2]; rfl
  rw [n1, n2, Int.zero_mul, Int.zero_mul, Int.zero_add, Int.mul_emod, inI_odd hp] at t
  have hoff : onL b p = false := by
    rw [Bool.eq_false_iff]; intro hon
    have := (on_side ha hb h.1 hon).1
    rw [h.2.1] at this; omega
  refine inI_none hoff ?_
  rcases (show cntP b p % 2 = 0 ∨ cntP b p % 2 = 1 by omega) with e | e
  · exact e
  · rw [e] at t; simp at t
/-- P44: a hole that is filled. -/
theorem fill {o h : List P2} {hs : List (List P2)} {p : P2} (hv : plV o (hs ++ [h]) = true) :
    (0 ≤ inI h p → plI o (hs ++ [h]) p = - inI h p ∧ plI o hs p = 1) ∧ (inI h p = -1 → plI o (hs ++ [h]) p = plI o hs p) := by
  have hv' : plV o hs = true := by have := plV_less hv; rwa [List.dropLast_concat] at this
  have L := (plV_iff _ _).1 hv
  have ok := L.ok h (by simp)
  have ar := L.ar h (by simp)
  have e3 := inI_3 h p
  rw [plI_snoc]
  have le1 : plI o hs p ≤ 1 := by
    have : ∀ (hs : List (List P2)) (s : Int), s ≤ 1 → hs.foldl (fun s h => min s (-(inI h p))) s ≤ 1 := by
      intro hs
      induction hs with
      | nil => intro s h; exact h
      | cons x xs ih => intro s h; exact ih _ (by dsimp only; omega)
    exact this hs _ (by have := inI_3 o p; omega)
  constructor
  · intro h0
    have : plI o hs p = 1 := by
      refine (plI_one hv' p).2 ⟨?_, ?_⟩
      · rcases e3 with e | e | e
        · rw [(on_side L.out ok ((arB_iff _ _).1 ar).1 ((inI_zero _ _).1 e)).1]; exact ((arB_iff _ _).1 ar).2
        · exact in_in_in L.out ok ar e
        · omega
      · intro k hk
        obtain ⟨i, hi, rfl⟩ := List.getElem_of_mem hk
        have hbe := L.be i hs.length hi (by simp)
        rw [List.getElem?_append_left hi, List.getElem?_concat_length, List.getElem?_eq_getElem hi, Option.getD_some, Option.getD_some] at hbe
        have okk := L.ok hs[i] (by simp)
        have hbe' : beB h hs[i] = true := by rw [beB_comm]; exact hbe
        rcases e3 with e | e | e
        · have hb := (beB_iff _ _).1 hbe
          rw [(on_side okk ok hb.1 ((inI_zero _ _).1 e)).1]; exact hb.2.1
        · exact in_beyond ok okk hbe' e
        · omega
    rw [this]
    exact ⟨by omega, rfl⟩
  · intro e
    rw [e]; omega
end Go.Proofs.Ythedlopfjlnogaa
