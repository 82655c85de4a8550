/-
  OUR OWN TEXT. A text cut at each letter: what holds of it; as the library's words have it.
-/
import Derived.Test.YtfdnadiliedikaaDoorBw
import Derived.Lib.Split
namespace Go.Proofs.YtfdnadiliedikaaDoor
open Go

/-- Letters cut at each letter c. -/
def cutL (c : UInt8) : List UInt8 → List (List UInt8)
  | [] => [[]]
  | b :: r => if b = c then [] :: cutL c r else match cutL c r with
    | [] => [[b]]
    | x :: xs => (b :: x) :: xs
theorem cutL_ne (c : UInt8) (l : List UInt8) : cutL c l ≠ [] := by
  cases l with
  | nil => simp [cutL]
  | cons b r =>
    unfold cutL
    split
    · simp
    · split <;> simp
theorem index_one_hit (c : UInt8) (r : List UInt8) : Lib.index (c :: r) [c] = 0 := by
  unfold Lib.index; simp [List.isPrefixOf]
theorem index_one_miss {b c : UInt8} (h : b ≠ c) (r : List UInt8) : Lib.index (b :: r) [c] = if Lib.index r [c] == -1 then -1 else Lib.index r [c] + 1 := by
  have h' : ¬ (c = b) := fun e => h e.symm
  rw [Lib.index, if_neg (by simp [List.isPrefixOf, h'])]
theorem splitK_cut (c : UInt8) (l : List UInt8) : Lib.splitK [c] 0 (Lib.count l [c]) l = cutL c l := by
  induction l with
  | nil =>
    have h : Lib.index [] [c] = -1 := by simp [Lib.index]
    rw [Lib.count_miss h]; rfl
  | cons b r ih =>
    by_cases hb : b = c
    · subst hb
      have h := index_one_hit b r
      have hc : Lib.count (b :: r) [b] = 1 + Lib.count r [b] := by
        have := Lib.count_hit (s := b :: r) (sub := [b]) (i := 0) (by simp) h
        simpa using this
      rw [hc, Nat.add_comm, Lib.splitK, if_neg (by rw [h]; decide), h, cutL, if_pos rfl, ← ih]
      simp
    · have hcase : Lib.index r [c] = -1 ∨ ∃ i : Nat, Lib.index r [c] = i := by
        have := Lib.index_ge r [c]
        by_cases h : Lib.index r [c] = -1
        · exact .inl h
        · exact .inr ⟨(Lib.index r [c]).toNat, by omega⟩
      rcases hcase with hm | ⟨i, hi⟩
      · have h : Lib.index (b :: r) [c] = -1 := by rw [index_one_miss hb, hm]; rfl
        rw [Lib.count_miss hm] at ih
        rw [Lib.count_miss h, cutL, if_neg hb, ← ih]
        rfl
      · have h : Lib.index (b :: r) [c] = ((i + 1 : Nat) : Int) := by
          rw [index_one_miss hb, hi, if_neg (by simp)]; simp
        have hc : Lib.count (b :: r) [c] = 1 + Lib.count (r.drop (i + 1)) [c] := by
          have := Lib.count_hit (s := b :: r) (sub := [c]) (i := i + 1) (by simp) h
          simpa using this
        have hr : Lib.count r [c] = 1 + Lib.count (r.drop (i + 1)) [c] := by
          have := Lib.count_hit (s := r) (sub := [c]) (i := i) (by simp) hi
          simpa using this
        rw [hr, Nat.add_comm, Lib.splitK, if_neg (by rw [hi]; simp), hi] at ih
        rw [hc, Nat.add_comm, Lib.splitK, if_neg (by rw [h]; simp; omega), h, cutL, if_neg hb, ← ih]
        simp
theorem cutL_snoc_hit (c : UInt8) (l : List UInt8) : cutL c (l ++ [c]) = cutL c l ++ [[]] := by
  induction l with
  | nil => simp [cutL]
  | cons b r ih =>
    rw [List.cons_append]
    by_cases hb : b = c
    · rw [cutL, cutL, if_pos hb, if_pos hb, ih]; rfl
    · rw [cutL, cutL, if_neg hb, if_neg hb, ih]
      cases h : cutL c r with
      | nil => exact absurd h (cutL_ne c r)
      | cons x xs => rfl
theorem cutL_snoc_miss {b c : UInt8} (h : b ≠ c) (l : List UInt8) : ∃ u x, cutL c l = u ++ [x] ∧ cutL c (l ++ [b]) = u ++ [x ++ [b]] := by
  induction l with
  | nil => exact ⟨[], [], rfl, by simp [cutL, h]⟩
  | cons a r ih =>
    obtain ⟨u, x, e1, e2⟩ := ih
    rw [List.cons_append]
    by_cases ha : a = c
    · exact ⟨[] :: u, x, by rw [cutL, if_pos ha, e1]; rfl, by rw [cutL, if_pos ha, e2]; rfl⟩
    · cases u with
      | nil => exact ⟨[], a :: x, by rw [cutL, if_neg ha, e1]; rfl, by rw [cutL, if_neg ha, e2]; rfl⟩
      | cons y ys => exact ⟨(a :: y) :: ys, x, by rw [cutL, if_neg ha, e1]; rfl, by rw [cutL, if_neg ha, e2]; rfl⟩
end Go.Proofs.YtfdnadiliedikaaDoor
