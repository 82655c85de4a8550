/-
  OUR OWN TEXT. Twice the area of a loop, two ways; where a point is, seen from a loop. No program stands in it.
-/
import Derived.Test.YtfdnadiliedikaaDoorLoopM
namespace Go.Proofs.YtfdnadiliedikaaDoor
/-- What the edge at a place sweeps, seen from the grid's corner. -/
def swE (l : List P2) (i : Nat) : Int := crs 0 0 (ptAt l i).1 (ptAt l i).2 (ptAt l (nxt l i)).1 (ptAt l (nxt l i)).2
def sumF (f : Nat → Int) : Nat → Int
  | 0 => 0
  | k + 1 => sumF f k + f k
/-- Twice the area. -/
def sizeI (l : List P2) : Int := sumF (swE l) l.length
/-- .. by triangles. -/
def triE (l : List P2) (i : Nat) : Int := crs (ptAt l 0).1 (ptAt l 0).2 (ptAt l i).1 (ptAt l i).2 (ptAt l (i + 1)).1 (ptAt l (i + 1)).2
/-- Of the triangles ahead of the place k. -/
def fan (l : List P2) : Nat → Int
  | 0 => 0
  | 1 => 0
  | k + 2 => fan l (k + 1) + triE l (k + 1)
theorem crs_split (ax ay bx b_y cx cy : Int) : crs 0 0 ax ay bx b_y + crs 0 0 bx b_y cx cy = crs 0 0 ax ay cx cy + crs ax ay bx b_y cx cy := by unfold crs; grind
theorem crs_O_back (ax ay bx b_y : Int) : crs 0 0 ax ay bx b_y = - crs 0 0 bx b_y ax ay := by unfold crs; grind
theorem crs_O_same (ax ay : Int) : crs 0 0 ax ay ax ay = 0 := by unfold crs; grind
theorem fan_sum (l : List P2) (k : Nat) (hk : k < l.length) : sumF (swE l) k = fan l k + crs 0 0 (ptAt l 0).1 (ptAt l 0).2 (ptAt l k).1 (ptAt l k).2 := by
  induction k with
  | zero => simp [sumF, fan, crs_O_same]
  | succ k ih =>
    have ih := ih (by omega)
    have e : nxt l k = k + 1 := by unfold nxt; exact Nat.mod_eq_of_lt hk
    show sumF (swE l) k + swE l k = _
    rw [ih]; unfold swE; rw [e]
    have h := crs_split (ptAt l 0).1 (ptAt l 0).2 (ptAt l k).1 (ptAt l k).2 (ptAt l (k + 1)).1 (ptAt l (k + 1)).2
    cases k with
    | zero =>
      have h0 := crs_O_same (ptAt l 0).1 (ptAt l 0).2
      simp only [fan]; omega
    | succ k =>
      have e2 : fan l (k + 1 + 1) = fan l (k + 1) + triE l (k + 1) := rfl
      rw [e2]; unfold triE; omega
theorem sizeI_fan (l : List P2) (h : 1 ≤ l.length) : sizeI l = fan l (l.length - 1) := by
  obtain ⟨k, hk⟩ : ∃ k, l.length = k + 1 := ⟨l.length - 1, by omega⟩
  unfold sizeI
  rw [hk]
  show sumF (swE l) k + swE l k = _
  rw [fan_sum l k (by omega)]
  unfold swE
  have e : nxt l k = 0 := by unfold nxt; rw [hk, Nat.mod_self]
  rw [e, crs_O_back (ptAt l k).1]
  simp only [Nat.add_sub_cancel]; omega
def sizeV (l : List P2) : Int := if okV l then sizeI l else 0

/-- The edge at a place has the point. -/
def onE (l : List P2) (p : P2) (i : Nat) : Bool := hasP (ptAt l i) (ptAt l (nxt l i)) p
/-- The edge passes to the right of the point, at its height. -/
def passP (a b p : P2) : Bool := if a.2 > b.2 then decide (b.2 ≤ p.2) && decide (p.2 < a.2) && decide (0 < crs b.1 b.2 a.1 a.2 p.1 p.2) else decide (a.2 ≤ p.2) && decide (p.2 < b.2) && decide (0 < crs a.1 a.2 b.1 b.2 p.1 p.2)
def passE (l : List P2) (p : P2) (i : Nat) : Bool := passP (ptAt l i) (ptAt l (nxt l i)) p
/-- Where one is behind the first k edges. -/
def whereK (l : List P2) (p : P2) : Nat → Int
  | 0 => -1
  | k + 1 => if passE l p k then - whereK l p k else whereK l p k
def inI (l : List P2) (p : P2) : Int := if (List.range l.length).any (onE l p) then 0 else whereK l p l.length
def inV (l : List P2) (p : P2) : Int := if okV l && ptB p.1 p.2 then inI l p else -1
theorem whereK_pm (l : List P2) (p : P2) (k : Nat) : whereK l p k = -1 ∨ whereK l p k = 1 := by
  induction k with
  | zero => exact .inl rfl
  | succ k ih => simp only [whereK]; split <;> omega
end Go.Proofs.YtfdnadiliedikaaDoor
