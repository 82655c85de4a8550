/-
  OUR OWN TEXT. Paths, the points at which they turn, and the points between turns, in numbers.
-/
import Derived.Test.YtfdnadiliedikaaDoorLoopT
namespace Go.Proofs.YtfdnadiliedikaaDoor

def dP (p q : P2) : P2 := (q.1 - p.1, q.2 - p.2)
def besP (p q : P2) : Bool := decide (dt p.1 p.2 q.1 q.2 q.1 q.2 = 1)
def okP (p : P2) : Bool := ptB p.1 p.2
def chB : P2 → List P2 → Bool
  | _, [] => true
  | a, b :: r => besP a b && chB b r
/-- Points, each beside the one ahead. -/
def chL : List P2 → Bool
  | [] => true
  | a :: r => chB a r
def pathP (l : List P2) : Bool := decide (1 ≤ l.length ∧ l.length ≤ 400) && l.all okP && chL l
/-- Whether a path begins, turns, or ends at a place. -/
def isT (l : List P2) (i : Nat) : Bool := decide (i = 0) || decide (i + 1 = l.length) || decide (dP (ptAt l (i - 1)) (ptAt l i) ≠ dP (ptAt l i) (ptAt l (i + 1)))
def turnsK (l : List P2) (k : Nat) : List P2 := ((List.range k).filter (isT l)).map (ptAt l)
def turnsL (l : List P2) : List P2 := turnsK l l.length
theorem turnsK_succ (l : List P2) (k : Nat) : turnsK l (k + 1) = turnsK l k ++ (if isT l k then [ptAt l k] else []) := by
  unfold turnsK
  rw [List.range_succ, List.filter_append, List.map_append]
  congr 1
  cases h : isT l k <;> simp [h]
theorem turnsK_len (l : List P2) (k : Nat) : (turnsK l k).length ≤ k := by
  unfold turnsK
  rw [List.length_map]
  exact Nat.le_trans (List.length_filter_le ..) (by simp)
/-- Turns behind two points. -/
def goT : P2 → P2 → List P2 → List P2
  | _, b, [] => [b]
  | a, b, c :: r => if dP a b = dP b c then goT b c r else b :: goT b c r
def turnsR : List P2 → List P2
  | [] => []
  | [a] => [a]
  | a :: b :: r => a :: goT a b r
theorem goT_range (a b : P2) (r : List P2) : goT a b r = ((List.range (r.length + 1)).filter fun i => isT (a :: b :: r) (i + 1)).map fun i => ptAt (a :: b :: r) (i + 1) := by
  induction r generalizing a b with
  | nil => simp [goT, isT, ptAt]
  | cons c r ih =>
    have h0 : isT (a :: b :: c :: r) (0 + 1) = decide (dP a b ≠ dP b c) := by simp [isT, ptAt]
    have hs : ∀ i, isT (a :: b :: c :: r) (i + 1 + 1) = isT (b :: c :: r) (i + 1) := by
      intro i
      simp [isT, ptAt]
      rfl
    have hp : ∀ i, ptAt (a :: b :: c :: r) (i + 1 + 1) = ptAt (b :: c :: r) (i + 1) := by
      intro i
      simp [ptAt]
    rw [List.length_cons, List.range_succ_eq_map, List.filter_cons, h0, List.filter_map]
    have e1 : ((fun i => isT (a :: b :: c :: r) (i + 1)) ∘ Nat.succ) = fun i => isT (b :: c :: r) (i + 1) := funext hs
    rw [e1]
    have e2 : List.map (fun i => ptAt (a :: b :: c :: r) (i + 1)) (List.map Nat.succ (List.filter (fun i => isT (b :: c :: r) (i + 1)) (List.range (r.length + 1)))) = goT b c r := by
      rw [ih b c, List.map_map]
      exact congrFun (congrArg List.map (funext hp)) _
    unfold goT
    by_cases h : dP a b = dP b c
    · rw [if_pos h, if_neg (by simp [h]), e2]
    · rw [if_neg h, if_pos (by simp [h]), List.map_cons, e2]
      rfl
theorem turnsL_R (l : List P2) : turnsL l = turnsR l := by
  match l with
  | [] => rfl
  | [a] => rfl
  | a :: b :: r =>
    show turnsL (a :: b :: r) = a :: goT a b r
    unfold turnsL turnsK
    rw [goT_range a b r, List.length_cons, List.length_cons, List.range_succ_eq_map, List.filter_cons, if_pos (by simp [isT]), List.map_cons, List.filter_map, List.map_map]
    rfl
theorem turnsL_nil {l : List P2} (h : 1 ≤ l.length) : 1 ≤ (turnsL l).length := by
  rw [turnsL_R]
  match l, h with
  | [a], _ => simp [turnsR]
  | a :: b :: r, _ => simp [turnsR]
theorem turnsL_mem {l : List P2} {p : P2} (h : p ∈ turnsL l) : p ∈ l := by
  unfold turnsL turnsK at h
  rw [List.mem_map] at h
  obtain ⟨i, hi, rfl⟩ := h
  have hi' := List.mem_range.1 (List.mem_filter.1 hi).1
  rw [ptAt_lt hi']
  exact List.getElem_mem _
/-- Some steps from a point in one way. -/
def lineL (a d : P2) : Nat → List P2
  | 0 => []
  | n + 1 => (a.1 + d.1, a.2 + d.2) :: lineL (a.1 + d.1, a.2 + d.2) d n
def addP (a d : P2) (n : Nat) : P2 := (a.1 + n * d.1, a.2 + n * d.2)
theorem addP_succ (a d : P2) (n : Nat) : addP (a.1 + d.1, a.2 + d.2) d n = addP a d (n + 1) := by
  simp only [addP, Prod.mk.injEq]
  constructor <;> (push_cast; grind)
theorem addP_one (a d : P2) (n : Nat) : ((addP a d n).1 + d.1, (addP a d n).2 + d.2) = addP a d (n + 1) := by
  simp only [addP, Prod.mk.injEq]
  constructor <;> (push_cast; grind)
theorem addP_zero (a d : P2) : addP a d 0 = a := by simp [addP]
theorem lineL_snoc (a d : P2) (n : Nat) : lineL a d (n + 1) = lineL a d n ++ [addP a d (n + 1)] := by
  induction n generalizing a with
  | zero => simp [lineL, addP]
  | succ n ih => rw [lineL, ih, addP_succ]; simp [lineL]
theorem lineL_len (a d : P2) (n : Nat) : (lineL a d n).length = n := by
  induction n generalizing a with
  | zero => rfl
  | succ n ih => simp [lineL, ih]
def sg1 (x : Int) : Int := if x < 0 then -1 else if x = 0 then 0 else 1
def wayP (a b : P2) : P2 := (sg1 (b.1 - a.1), sg1 (b.2 - a.2))
def distP (a b : P2) : Nat := (b.1 - a.1).natAbs + (b.2 - a.2).natAbs
def inlP (a b : P2) : Bool := decide (a ≠ b) && decide (a.1 = b.1 ∨ a.2 = b.2)
def legL (a b : P2) : List P2 := lineL a (wayP a b) (distP a b)
def stayG : P2 → List P2 → List P2
  | _, [] => []
  | a, b :: r => legL a b ++ stayG b r
def stayL : List P2 → List P2
  | [] => []
  | a :: r => a :: stayG a r
def inG : P2 → List P2 → Bool
  | _, [] => true
  | a, b :: r => inlP a b && inG b r
def inL : List P2 → Bool
  | [] => true
  | a :: r => inG a r
def stayV (t : List P2) : Bool := decide (1 ≤ t.length ∧ t.length ≤ 400) && t.all okP && inL t && decide ((stayL t).length ≤ 400)
def unitP (d : P2) : Prop := d = (1, 0) ∨ d = (-1, 0) ∨ d = (0, 1) ∨ d = (0, -1)
theorem besP_unit {a b : P2} (h : besP a b = true) : unitP (dP a b) := by
  obtain ⟨ax, ay⟩ := a
  obtain ⟨bx, b_y⟩ := b
  have h := of_decide_eq_true h
  simp only [dt] at h
  have h1 : bx - ax ≤ 1 ∧ -1 ≤ bx - ax ∧ b_y - ay ≤ 1 ∧ -1 ≤ b_y - ay := by
    generalize bx - ax = u at h ⊢
    generalize b_y - ay = v at h ⊢
    have hv : 0 ≤ v * v := by rcases Int.le_total 0 v with h | h; exact Int.mul_nonneg h h; exact Int.mul_nonneg_of_nonpos_of_nonpos h h
    have hu : 0 ≤ u * u := by rcases Int.le_total 0 u with h | h; exact Int.mul_nonneg h h; exact Int.mul_nonneg_of_nonpos_of_nonpos h h
    refine ⟨?_, ?_, ?_, ?_⟩
    · apply Classical.byContradiction; intro hc
      have : 2 * 2 ≤ u * u := Int.mul_le_mul (by omega) (by omega) (by omega) (by omega)
      omega
    · apply Classical.byContradiction; intro hc
      have : 2 * 2 ≤ (-u) * (-u) := Int.mul_le_mul (by omega) (by omega) (by omega) (by omega)
      rw [Int.neg_mul_neg] at this
      omega
    · apply Classical.byContradiction; intro hc
      have : 2 * 2 ≤ v * v := Int.mul_le_mul (by omega) (by omega) (by omega) (by omega)
      omega
    · apply Classical.byContradiction; intro hc
      have : 2 * 2 ≤ (-v) * (-v) := Int.mul_le_mul (by omega) (by omega) (by omega) (by omega)
      rw [Int.neg_mul_neg] at this
      omega
  obtain ⟨u0, u1, v0, v1⟩ := h1
  have hu : bx - ax = -1 ∨ bx - ax = 0 ∨ bx - ax = 1 := by omega
  have hv : b_y - ay = -1 ∨ b_y - ay = 0 ∨ b_y - ay = 1 := by omega
  unfold unitP dP
  simp only [Prod.mk.injEq]
  rcases hu with hu | hu | hu <;> rcases hv with hv | hv | hv <;> rw [hu, hv] at h <;> simp_all
theorem besP_iff {a b : P2} : besP a b = true ↔ unitP (dP a b) := by
  refine ⟨besP_unit, fun h => ?_⟩
  obtain ⟨ax, ay⟩ := a
  obtain ⟨bx, b_y⟩ := b
  simp only [unitP, dP, Prod.mk.injEq] at h
  apply decide_eq_true
  simp only [dt]
  rcases h with ⟨h, h'⟩ | ⟨h, h'⟩ | ⟨h, h'⟩ | ⟨h, h'⟩ <;> rw [h, h'] <;> rfl
theorem sg1_pos {x : Int} (h : 0 < x) : sg1 x = 1 := by unfold sg1; rw [if_neg (by omega), if_neg (by omega)]
theorem sg1_neg {x : Int} (h : x < 0) : sg1 x = -1 := by unfold sg1; rw [if_pos h]
theorem sg1_zero : sg1 0 = 0 := rfl
theorem wayP_unit {a d : P2} (hd : unitP d) (n : Nat) : wayP a (addP a d (n + 1)) = d ∧ distP a (addP a d (n + 1)) = n + 1 ∧ inlP a (addP a d (n + 1)) = true := by
  obtain ⟨ax, ay⟩ := a
  have e1 : ∀ z : Int, z + ((n + 1 : Nat) : Int) * 1 - z = (n : Int) + 1 := fun z => by push_cast; omega
  have e2 : ∀ z : Int, z + ((n + 1 : Nat) : Int) * (-1) - z = -((n : Int) + 1) := fun z => by push_cast; omega
  have e3 : ∀ z : Int, z + ((n + 1 : Nat) : Int) * 0 - z = 0 := fun z => by omega
  have s1 : sg1 ((n : Int) + 1) = 1 := sg1_pos (by omega)
  have s2 : sg1 (-((n : Int) + 1)) = -1 := sg1_neg (by omega)
  rcases hd with rfl | rfl | rfl | rfl <;> simp only [wayP, distP, inlP, addP, e1, e2, e3, s1, s2, sg1_zero] <;> refine ⟨trivial, by omega, ?_⟩ <;> simp <;> omega
theorem legL_unit {a d : P2} (hd : unitP d) (n : Nat) : legL a (addP a d (n + 1)) = lineL a d (n + 1) := by
  obtain ⟨h1, h2, _⟩ := wayP_unit (a := a) hd n
  unfold legL
  rw [h1, h2]
theorem dP_line {a b d : P2} (h : dP a b = d) : b = (a.1 + d.1, a.2 + d.2) := by
  subst h
  simp [dP]
  ext <;> simp <;> omega
theorem stay_go {s d a b : P2} {r : List P2} {k : Nat} (hd : unitP d) (ha : a = addP s d k) (hb : dP a b = d) (hc : chB b r = true) : stayG s (goT a b r) = lineL s d (k + 1) ++ r ∧ inG s (goT a b r) = true := by
  have hbk : b = addP s d (k + 1) := by rw [dP_line hb, ha, addP_one]
  induction r generalizing s d a b k with
  | nil =>
    unfold goT stayG stayG inG inG
    rw [hbk, legL_unit hd, (wayP_unit hd k).2.2]
    exact ⟨rfl, rfl⟩
  | cons c r ih =>
    unfold chB at hc
    rw [Bool.and_eq_true] at hc
    obtain ⟨hbc, hc⟩ := hc
    have hu := besP_unit hbc
    unfold goT
    by_cases h : dP a b = dP b c
    · rw [if_pos h]
      have hbc' : dP b c = d := by rw [← h, hb]
      have hck : c = addP s d (k + 1 + 1) := by rw [dP_line hbc', hbk, addP_one]
      obtain ⟨h1, h2⟩ := ih (s := s) (d := d) (a := b) (b := c) (k := k + 1) hd hbk hbc' hc hck
      refine ⟨?_, h2⟩
      rw [h1, lineL_snoc s d (k + 1), ← hck]
      simp
    · rw [if_neg h]
      unfold stayG inG
      obtain ⟨h1, h2⟩ := ih (s := b) (d := dP b c) (a := b) (b := c) (k := 0) hu (addP_zero _ _).symm rfl hc (by rw [← addP_one, addP_zero]; exact dP_line rfl)
      rw [h1, h2, hbk, legL_unit hd, (wayP_unit hd k).2.2]
      refine ⟨?_, rfl⟩
      have : lineL (addP s d (k + 1)) (dP (addP s d (k + 1)) c) (0 + 1) = [c] := by
        unfold lineL lineL
        rw [← dP_line rfl]
      rw [this]
      simp
theorem stay_turns {l : List P2} (hc : chL l = true) : stayL (turnsL l) = l ∧ inL (turnsL l) = true := by
  rw [turnsL_R]
  match l, hc with
  | [], _ => exact ⟨rfl, rfl⟩
  | [a], _ => exact ⟨rfl, rfl⟩
  | a :: b :: r, hc =>
    unfold chL chB at hc
    rw [Bool.and_eq_true] at hc
    have hu := besP_unit hc.1
    obtain ⟨h1, h2⟩ := stay_go (s := a) (k := 0) hu (addP_zero _ _).symm rfl hc.2
    show a :: stayG a (goT a b r) = a :: b :: r ∧ inG a (goT a b r) = true
    rw [h1, h2]
    refine ⟨?_, rfl⟩
    unfold lineL lineL
    rw [← dP_line rfl]
    rfl
theorem pathP_parts {l : List P2} (h : pathP l = true) : (1 ≤ l.length ∧ l.length ≤ 400) ∧ (∀ p ∈ l, okP p = true) ∧ chL l = true := by
  simp only [pathP, Bool.and_eq_true, decide_eq_true_eq, List.all_eq_true] at h
  exact ⟨h.1.1, h.1.2, h.2⟩
theorem pathP_of {l : List P2} (h : 1 ≤ l.length ∧ l.length ≤ 400) (h1 : ∀ p ∈ l, okP p = true) (h2 : chL l = true) : pathP l = true := by
  simp only [pathP, Bool.and_eq_true, decide_eq_true_eq, List.all_eq_true]
  exact ⟨⟨h, h1⟩, h2⟩
theorem stayV_parts {t : List P2} (h : stayV t = true) : (1 ≤ t.length ∧ t.length ≤ 400) ∧ (∀ p ∈ t, okP p = true) ∧ inL t = true ∧ (stayL t).length ≤ 400 := by
  simp only [stayV, Bool.and_eq_true, decide_eq_true_eq, List.all_eq_true] at h
  exact ⟨h.1.1.1, h.1.1.2, h.1.2, h.2⟩
theorem stayV_of {t : List P2} (h : 1 ≤ t.length ∧ t.length ≤ 400) (h1 : ∀ p ∈ t, okP p = true) (h2 : inL t = true) (h3 : (stayL t).length ≤ 400) : stayV t = true := by
  simp only [stayV, Bool.and_eq_true, decide_eq_true_eq, List.all_eq_true]
  exact ⟨⟨⟨h, h1⟩, h2⟩, h3⟩
theorem stayV_turns {l : List P2} (h : pathP l = true) : stayV (turnsL l) = true ∧ stayL (turnsL l) = l := by
  obtain ⟨hl, ho, hc⟩ := pathP_parts h
  obtain ⟨h1, h2⟩ := stay_turns hc
  refine ⟨stayV_of ⟨turnsL_nil hl.1, Nat.le_trans (turnsK_len _ _) hl.2⟩ (fun p hp => ho p (turnsL_mem hp)) h2 (by rw [h1]; exact hl.2), h1⟩
end Go.Proofs.YtfdnadiliedikaaDoor
