/-
  OUR OWN TEXT. Texts of points: what holds of them.
-/
import Derived.Test.YtfdnadiliedikaaDoorPtText
namespace Go.Proofs.YtfdnadiliedikaaDoor
open Go.RowKit Go.Sort

/-- The letters of points, a blank between. -/
def txL (l : List P2) : List UInt8 := Lib.join (l.map wdL) [32]
def txB (l : List P2) : ByteArray := ⟨(txL l).toArray⟩
theorem txL_nil : txL [] = [] := rfl
theorem txL_one (p : P2) : txL [p] = wdL p := Lib.join_one _ _
theorem joinTail_snoc (sep x : List UInt8) (r : List (List UInt8)) : Lib.joinTail sep (r ++ [x]) = Lib.joinTail sep r ++ sep ++ x := by
  unfold Lib.joinTail; simp [List.append_assoc]
theorem txL_snoc {l : List P2} (h : l ≠ []) (p : P2) : txL (l ++ [p]) = txL l ++ [32] ++ wdL p := by
  cases l with
  | nil => exact absurd rfl h
  | cons a r =>
    unfold txL
    rw [List.cons_append, List.map_cons, List.map_append, List.map_cons, List.map_nil, Lib.join_cons, List.map_cons, Lib.join_cons, joinTail_snoc]
    simp [List.append_assoc]
theorem txB_nil : txB [] = ⟨#[]⟩ := rfl
theorem txB_one (p : P2) : txB [p] = wdB p := by unfold txB wdB; rw [txL_one]
theorem txB_snoc {l : List P2} (h : l ≠ []) (p : P2) : txB l ++ ByteArray.mk #[32] ++ wdB p = txB (l ++ [p]) := by
  have e : (ByteArray.mk #[32]) = ByteArray.mk ([32] : List UInt8).toArray := rfl
  unfold txB wdB
  rw [e, ByteArray.mk_append_mk, ByteArray.mk_append_mk, txL_snoc h]
theorem lens_le (l : List P2) (h : ∀ p ∈ l, ptB p.1 p.2 = true) : Lib.lens (l.map wdL) ≤ 43 * l.length := by
  induction l with
  | nil => simp [Lib.lens]
  | cons a r ih =>
    have h1 := wdL_len (h a (by simp))
    have h2 := ih fun p hp => h p (by simp [hp])
    simp only [Lib.lens, List.map_cons, List.sum_cons, List.length_cons] at h2 ⊢
    omega
theorem txL_len (l : List P2) (h : ∀ p ∈ l, ptB p.1 p.2 = true) : (txL l).length ≤ 44 * l.length := by
  cases l with
  | nil => simp [txL_nil]
  | cons a r =>
    have h2 := lens_le (a :: r) h
    unfold txL
    rw [List.map_cons, Lib.join_length, List.length_map]
    rw [List.map_cons] at h2
    simp only [List.length_cons, List.length_nil] at h2 ⊢
    omega
theorem txB_size (l : List P2) (h : ∀ p ∈ l, ptB p.1 p.2 = true) : (txB l).size ≤ 44 * l.length := by
  have := txL_len l h
  unfold txB ByteArray.size; simpa using this
theorem wdB_size {p : P2} (hp : ptB p.1 p.2 = true) : (wdB p).size ≤ 43 := by have := wdL_len hp; unfold wdB ByteArray.size; simpa using this
theorem words_at (l : List P2) (j : Nat) (x : ByteArray) (h : (l.map wdB)[j]? = some x) : (l.map fun p => Value.string (wdB p))[j]? = some (.string x) := by
  rw [List.getElem?_map] at h ⊢
  cases hj : l[j]? with
  | none => rw [hj] at h; cases h
  | some p => rw [hj] at h; simp at h ⊢; rw [h]
theorem words_join (l : List P2) : (Lib.join ((l.map wdB).map (·.data.toList)) (ByteArray.mk #[32]).data.toList) = txL l := by
  unfold txL
  rw [List.map_map]
  congr 1
end Go.Proofs.YtfdnadiliedikaaDoor
