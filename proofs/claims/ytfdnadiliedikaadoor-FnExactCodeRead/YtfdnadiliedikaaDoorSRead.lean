/-
  OUR OWN TEXT. The specification's reading of points, by contract.
-/
import Derived.Test.YtfdnadiliedikaaDoorSCut
import Derived.Test.YtfdnadiliedikaaDoorLuL
import Derived.Test.YtfdnadiliedikaaDoorSPt
namespace Go.Proofs.YtfdnadiliedikaaDoor
open Go.RowKit Go.Sort

def digB (b : UInt8) : Bool := decide (48 ≤ b.toNat ∧ b.toNat ≤ 57)
/-- The point of a word. -/
def wordP (x : List UInt8) : Option P2 :=
  match x with
  | [a, b, c] => if b = 44 ∧ digB a = true ∧ digB c = true then some (((a.toNat : Int) - 48), ((c.toNat : Int) - 48)) else none
  | _ => none
/-- The points of words, up to one that is none. -/
def wordsP : List (List UInt8) → Option (List P2)
  | [] => some []
  | x :: xs => match wordP x with
    | none => none
    | some p => (wordsP xs).map (p :: ·)
theorem wordsP_snoc (xs : List (List UInt8)) (x : List UInt8) : wordsP (xs ++ [x]) = match wordsP xs with
    | none => none
    | some l => (wordP x).map (fun p => l ++ [p]) := by
  induction xs with
  | nil => cases h : wordP x <;> simp [wordsP, h]
  | cons y ys ih =>
    simp only [List.cons_append, wordsP]
    cases h : wordP y with
    | none => rfl
    | some p =>
      simp only [ih]
      cases wordsP ys with
      | none => rfl
      | some l => cases wordP x <;> rfl
theorem wordsP_none {xs : List (List UInt8)} {k : Nat} (h : wordsP (xs.take k) = none) : wordsP xs = none := by
  induction xs generalizing k with
  | nil => simpa using h
  | cons y ys ih =>
    cases k with
    | zero => simp [wordsP] at h
    | succ k =>
      simp only [List.take_succ_cons, wordsP] at h ⊢
      cases hy : wordP y with
      | none => rfl
      | some p =>
        rw [hy] at h
        simp only [Option.map_eq_none_iff] at h ⊢
        exact ih h
theorem wordsP_len {xs : List (List UInt8)} {l : List P2} (h : wordsP xs = some l) : l.length = xs.length := by
  induction xs generalizing l with
  | nil => simp [wordsP] at h; subst h; rfl
  | cons y ys ih =>
    simp only [wordsP] at h
    cases hy : wordP y with
    | none => rw [hy] at h; cases h
    | some p =>
      rw [hy] at h
      simp only [Option.map_eq_some_iff] at h
      obtain ⟨l', h1, rfl⟩ := h
      simp [ih h1]
theorem own_b {W W' : World} {base : Nat} {e : TypeId} {size n : Nat} {v : Value} {xs : List Value} (h : W.ownsRow base e size v n xs) (J : Below W.heap.size W W') : W'.ownsRow base e size v n xs :=
  h.kept (row := none) ⟨J.os, J.tape, J.output, J.size, fun j hj _ => J.block j hj⟩ (Classical.em _)
theorem wordP_3 {a b c : UInt8} (h : b = 44 ∧ digB a = true ∧ digB c = true) : wordP [a, b, c] = some (((a.toNat : Int) - 48), ((c.toNat : Int) - 48)) := by unfold wordP; simp only; rw [if_pos h]
theorem wordP_no {x : List UInt8} (h : x.length ≠ 3) : wordP x = none := by
  unfold wordP
  split
  · simp at h
  · rfl
theorem wordP_bad {a b c : UInt8} (h : ¬ (b = 44 ∧ digB a = true ∧ digB c = true)) : wordP [a, b, c] = none := by unfold wordP; simp only; rw [if_neg h]
theorem ptHead (l : List P2) (x y : Int) : (ptCells l ++ [Value.int .i64 x, Value.int .i64 y])[0]? = some (.int .i64 ((l ++ [(x, y)]).headD (0, 0)).1) := by
  cases l <;> simp [ptCells]
theorem cell_of_heap {W W' : World} {g j : Nat} (h : W'.heap[g]? = W.heap[g]?) : W'.cell? ⟨g, j, none⟩ = W.cell? ⟨g, j, none⟩ := by
  unfold World.cell?; simp only [h]
end Go.Proofs.YtfdnadiliedikaaDoor
