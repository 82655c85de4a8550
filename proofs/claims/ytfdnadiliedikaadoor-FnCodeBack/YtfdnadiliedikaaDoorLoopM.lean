/-
  OUR OWN TEXT. Loops of points: what the program asks of one, what the specification asks: the same. No program stands in it.
-/
import Derived.Test.YtfdnadiliedikaaDoorGeoParts
namespace Go.Proofs.YtfdnadiliedikaaDoor

abbrev P2 := Int × Int
/-- The point at a place. -/
def ptAt (l : List P2) (i : Nat) : P2 := l[i]?.getD (0, 0)
/-- The place behind. -/
def nxt (l : List P2) (i : Nat) : Nat := (i + 1) % l.length
def sgP (a b : P2) : Bool := sgB a.1 a.2 b.1 b.2
def hasP (a b p : P2) : Bool := hasC a.1 a.2 b.1 b.2 p.1 p.2
def meetP (a b c d : P2) : Bool := meetC a.1 a.2 b.1 b.2 c.1 c.2 d.1 d.2
/-- .. at whatever points. -/
def hasQ (a b p : P2) : Bool := sgP a b && ptB p.1 p.2 && hasP a b p
def meetQ (a b c d : P2) : Bool := sgP a b && sgP c d && meetP a b c d
def sgE (l : List P2) (i : Nat) : Bool := sgP (ptAt l i) (ptAt l (nxt l i))
/-- The edges at two places meet. -/
def meetE (l : List P2) (i k : Nat) : Bool := meetP (ptAt l i) (ptAt l (nxt l i)) (ptAt l k) (ptAt l (nxt l k))
def meetF (l : List P2) (i k : Nat) : Bool := meetQ (ptAt l i) (ptAt l (nxt l i)) (ptAt l k) (ptAt l (nxt l k))
/-- The edge at a place and the next one have more in common than a point. -/
def backE (l : List P2) (i k : Nat) : Bool := hasP (ptAt l i) (ptAt l (nxt l i)) (ptAt l (nxt l k)) || hasP (ptAt l k) (ptAt l (nxt l k)) (ptAt l i)
def backF (l : List P2) (i k : Nat) : Bool := hasQ (ptAt l i) (ptAt l (nxt l i)) (ptAt l (nxt l k)) || hasQ (ptAt l k) (ptAt l (nxt l k)) (ptAt l i)

/-- What the program asks of the edge i, of the edge k. -/
def freeE (l : List P2) (i k : Nat) : Bool := decide (k = i) || decide (nxt l k = i) || (if k = nxt l i then !backF l i k else !meetF l i k)
def freeV (l : List P2) (i : Nat) : Bool := (List.range l.length).all (freeE l i)
def okV (l : List P2) : Bool := decide (3 ≤ l.length ∧ l.length ≤ 8) && (List.range l.length).all fun i => sgE l i && freeV l i

/-- What the specification asks. -/
def pairS (l : List P2) (i k : Nat) : Bool := decide (k < i + 2) || decide (nxt l k = i) || !meetE l i k
def rowS (l : List P2) (i : Nat) : Bool := !backE l i (nxt l i) && (List.range l.length).all (pairS l i)
def okS (l : List P2) : Bool := decide (3 ≤ l.length ∧ l.length ≤ 8) && (List.range l.length).all (sgE l) && (List.range l.length).all (rowS l)

/-- A loop. -/
structure OkL (l : List P2) : Prop where
  lo : 3 ≤ l.length
  hi : l.length ≤ 8
  seg : ∀ i, i < l.length → sgE l i = true
  back : ∀ i, i < l.length → backE l i (nxt l i) = false
  apart : ∀ i k, i < l.length → k < l.length → k ≠ i → nxt l k ≠ i → nxt l i ≠ k → meetE l i k = false

theorem nxt_lt {l : List P2} {i : Nat} (h : 0 < l.length) : nxt l i < l.length := Nat.mod_lt _ h
theorem nxt_cases {l : List P2} {i : Nat} (h : i < l.length) : (i + 1 < l.length ∧ nxt l i = i + 1) ∨ (i + 1 = l.length ∧ nxt l i = 0) := by
  unfold nxt
  rcases Nat.lt_or_ge (i + 1) l.length with h' | h'
  · exact .inl ⟨h', Nat.mod_eq_of_lt h'⟩
  · have : i + 1 = l.length := by omega
    exact .inr ⟨this, by rw [this, Nat.mod_self]⟩
theorem sgP_pt {a b : P2} (h : sgP a b = true) : ptB a.1 a.2 = true ∧ ptB b.1 b.2 = true := by
  have := sg_parts h; exact ⟨this.1, this.2.1⟩
theorem hasQ_of {a b p : P2} (h : sgP a b = true) (hp : ptB p.1 p.2 = true) : hasQ a b p = hasP a b p := by unfold hasQ; rw [h, hp]; rfl
theorem meetQ_of {a b c d : P2} (h : sgP a b = true) (hp : sgP c d = true) : meetQ a b c d = meetP a b c d := by unfold meetQ; rw [h, hp]; rfl
theorem meetP_comm (a b c d : P2) : meetP c d a b = meetP a b c d := meet_comm _ _ _ _ _ _ _ _
theorem meetE_comm (l : List P2) (i k : Nat) : meetE l k i = meetE l i k := meetP_comm _ _ _ _

theorem okV_iff (l : List P2) : okV l = true ↔ OkL l := by
  constructor
  · intro h
    simp only [okV, Bool.and_eq_true, decide_eq_true_eq, List.all_eq_true, List.mem_range] at h
    obtain ⟨⟨h3, h8⟩, h⟩ := h
    have hs : ∀ i, i < l.length → sgE l i = true := fun i hi => (h i hi).1
    have hf : ∀ i k, i < l.length → k < l.length → freeE l i k = true := fun i k hi hk => by
      have := (h i hi).2
      simp only [freeV, List.all_eq_true, List.mem_range] at this
      exact this k hk
    refine ⟨h3, h8, hs, fun i hi => ?_, fun i k hi hk n1 n2 n3 => ?_⟩
    · have hn := nxt_lt (l := l) (i := i) (by omega)
      have h1 := hf i (nxt l i) hi hn
      have e1 : nxt l i ≠ i := by rcases nxt_cases hi with ⟨_, e⟩ | ⟨_, e⟩ <;> omega
      have e2 : nxt l (nxt l i) ≠ i := by rcases nxt_cases hi with ⟨_, e⟩ | ⟨_, e⟩ <;> rcases nxt_cases hn with ⟨_, e'⟩ | ⟨_, e'⟩ <;> omega
      simp only [freeE, e1, e2, decide_false, Bool.false_or, if_true, Bool.not_eq_true'] at h1
      unfold backF at h1
      rw [hasQ_of (hs i hi) (sgP_pt (hs _ hn)).2, hasQ_of (hs _ hn) (sgP_pt (hs i hi)).1] at h1
      exact h1
    · have h1 := hf i k hi hk
      simp only [freeE, n1, n2, decide_false, Bool.false_or] at h1
      rw [if_neg (fun e => n3 (Eq.symm e))] at h1
      simp only [Bool.not_eq_true'] at h1
      unfold meetF at h1
      rw [meetQ_of (hs i hi) (hs k hk)] at h1
      exact h1
  · intro h
    simp only [okV, Bool.and_eq_true, decide_eq_true_eq, List.all_eq_true, List.mem_range]
    refine ⟨⟨h.lo, h.hi⟩, fun i hi => ⟨h.seg i hi, ?_⟩⟩
    simp only [freeV, List.all_eq_true, List.mem_range]
    intro k hk
    unfold freeE
    by_cases e1 : k = i
    · simp [e1]
    by_cases e2 : nxt l k = i
    · simp [e2]
    simp only [e1, e2, decide_false, Bool.false_or]
    by_cases e3 : k = nxt l i
    · rw [if_pos e3]
      have hb := h.back i hi
      unfold backF
      rw [hasQ_of (h.seg i hi) (sgP_pt (h.seg _ hk)).2, hasQ_of (h.seg _ hk) (sgP_pt (h.seg i hi)).1, e3]
      unfold backE at hb
      rw [hb]; rfl
    · rw [if_neg e3]
      have hm := h.apart i k hi hk e1 e2 (fun e => e3 e.symm)
      unfold meetF
      rw [meetQ_of (h.seg i hi) (h.seg k hk)]
      unfold meetE at hm
      rw [hm]; rfl

theorem okS_iff (l : List P2) : okS l = true ↔ OkL l := by
  constructor
  · intro h
    simp only [okS, Bool.and_eq_true, decide_eq_true_eq, List.all_eq_true, List.mem_range] at h
    obtain ⟨⟨⟨h3, h8⟩, hs⟩, h⟩ := h
    have hb : ∀ i, i < l.length → backE l i (nxt l i) = false := fun i hi => by
      have := h i hi
      simp only [rowS, Bool.and_eq_true, Bool.not_eq_true'] at this
      exact this.1
    have hp : ∀ i k, i < l.length → k < l.length → pairS l i k = true := fun i k hi hk => by
      have := h i hi
      simp only [rowS, Bool.and_eq_true, List.all_eq_true, List.mem_range] at this
      exact this.2 k hk
    have hlt : ∀ i k, i < l.length → k < l.length → i < k → nxt l k ≠ i → nxt l i ≠ k → meetE l i k = false := fun i k hi hk lt n2 n3 => by
      have h1 := hp i k hi hk
      have e : ¬ k < i + 2 := by
        rcases nxt_cases hi with ⟨_, e⟩ | ⟨_, e⟩ <;> omega
      simp only [pairS, e, n2, decide_false, Bool.false_or, Bool.not_eq_true'] at h1
      exact h1
    refine ⟨h3, h8, hs, hb, fun i k hi hk n1 n2 n3 => ?_⟩
    rcases Nat.lt_or_ge i k with lt | ge
    · exact hlt i k hi hk lt n2 n3
    · rw [← meetE_comm]
      exact hlt k i hk hi (by omega) n3 n2
  · intro h
    simp only [okS, Bool.and_eq_true, decide_eq_true_eq, List.all_eq_true, List.mem_range]
    refine ⟨⟨⟨h.lo, h.hi⟩, h.seg⟩, fun i hi => ?_⟩
    simp only [rowS, Bool.and_eq_true, Bool.not_eq_true', List.all_eq_true, List.mem_range]
    refine ⟨h.back i hi, fun k hk => ?_⟩
    unfold pairS
    by_cases e : k < i + 2
    · simp [e]
    by_cases e2 : nxt l k = i
    · simp [e2]
    have hm := h.apart i k hi hk (by omega) e2 (by rcases nxt_cases hi with ⟨_, e⟩ | ⟨_, e⟩ <;> omega)
    rw [hm]; simp
theorem okS_eq (l : List P2) : okS l = okV l := by rw [Bool.eq_iff_iff, okS_iff, okV_iff]
end Go.Proofs.YtfdnadiliedikaaDoor
