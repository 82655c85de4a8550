/-
  OUR OWN TEXT. Rows of segments: what they hold; that the exact laws find two of them the same.
-/
import Derived.Test.YtkncejcpeejkkaaGreatDoorMarks
import Derived.Test.YtkncejcpeejkkaaGreatDoorSOk
namespace Go.Proofs.YtkncejcpeejkkaaGreatDoor
open Go.RowKit Go.Sort

def sAt (ss : List (P2 × P2)) (j : Nat) : P2 × P2 := ss[j]?.getD ((0, 0), (0, 0))
/-- A row of segments, its cells. -/
def SRow (W : World) (g : Nat) (ss : List (P2 × P2)) : Prop := ∀ j, j < ss.length → W.cell? ⟨g, j * 4, none⟩ = some (.int .i64 (sAt ss j).1.1) ∧ W.cell? ⟨g, j * 4 + 1, none⟩ = some (.int .i64 (sAt ss j).1.2) ∧ W.cell? ⟨g, j * 4 + 2, none⟩ = some (.int .i64 (sAt ss j).2.1) ∧ W.cell? ⟨g, j * 4 + 3, none⟩ = some (.int .i64 (sAt ss j).2.2)
theorem SRow.below {W W' : World} {g : Nat} {ss : List (P2 × P2)} (h : SRow W g ss) (k : Below W.heap.size W W') (hg : g < W.heap.size) : SRow W' g ss := fun j hj => by
  obtain ⟨c0, c1, c2, c3⟩ := h j hj
  exact ⟨(k.cell (p := ⟨g, j * 4, none⟩) hg).trans c0, (k.cell (p := ⟨g, j * 4 + 1, none⟩) hg).trans c1, (k.cell (p := ⟨g, j * 4 + 2, none⟩) hg).trans c2, (k.cell (p := ⟨g, j * 4 + 3, none⟩) hg).trans c3⟩
theorem SRow.only {W W' : World} {g r : Nat} {ss : List (P2 × P2)} (h : SRow W g ss) (O : Only r W W') (hne : g ≠ r) : SRow W' g ss := fun j hj => by
  obtain ⟨c0, c1, c2, c3⟩ := h j hj
  exact ⟨cellO O c0 hne, cellO O c1 hne, cellO O c2 hne, cellO O c3 hne⟩
def cellsS (ss : List (P2 × P2)) : List Value := ss.flatMap fun s => seg4 s.1 s.2
theorem cellsS_append (a b : List (P2 × P2)) : cellsS (a ++ b) = cellsS a ++ cellsS b := by simp [cellsS]
theorem cellsS_len (ss : List (P2 × P2)) : (cellsS ss).length = ss.length * 4 := by
  induction ss with
  | nil => rfl
  | cons s ss ih => have : cellsS (s :: ss) = seg4 s.1 s.2 ++ cellsS ss := by simp [cellsS]
                    rw [this, List.length_append, ih]; simp [seg4]; omega
theorem cellsS_at (ss : List (P2 × P2)) (j : Nat) (hj : j < ss.length) :
    (cellsS ss)[j * 4]? = some (.int .i64 (sAt ss j).1.1) ∧ (cellsS ss)[j * 4 + 1]? = some (.int .i64 (sAt ss j).1.2) ∧ (cellsS ss)[j * 4 + 2]? = some (.int .i64 (sAt ss j).2.1) ∧ (cellsS ss)[j * 4 + 3]? = some (.int .i64 (sAt ss j).2.2) := by
  induction ss generalizing j with
  | nil => simp at hj
  | cons s ss ih =>
    have e : cellsS (s :: ss) = .int .i64 s.1.1 :: .int .i64 s.1.2 :: .int .i64 s.2.1 :: .int .i64 s.2.2 :: cellsS ss := by simp [cellsS, seg4]
    cases j with
    | zero => rw [e]; exact ⟨rfl, rfl, rfl, rfl⟩
    | succ j =>
      have := ih j (by simpa using hj)
      have e1 : (j + 1) * 4 = j * 4 + 1 + 1 + 1 + 1 := by omega
      have e2 : (j + 1) * 4 + 1 = j * 4 + 1 + 1 + 1 + 1 + 1 := by omega
      have e3 : (j + 1) * 4 + 2 = j * 4 + 2 + 1 + 1 + 1 + 1 := by omega
      have e4 : (j + 1) * 4 + 3 = j * 4 + 3 + 1 + 1 + 1 + 1 := by omega
      rw [e, e2, e3, e4, e1]
      simpa [sAt] using this
/-- The edges of a loop. -/
def segsL (pts : List P2) : List (P2 × P2) := (List.range pts.length).map fun k => (ptAt pts k, ptAt pts (nxt pts k))
theorem segsL_len (pts : List P2) : (segsL pts).length = pts.length := by simp [segsL]
theorem segsL_at (pts : List P2) (k : Nat) (hk : k < pts.length) : sAt (segsL pts) k = (ptAt pts k, ptAt pts (nxt pts k)) := by simp [segsL, sAt, hk]
theorem segsL_cells (pts : List P2) : cellsS (segsL pts) = segCells pts pts.length := by
  have : ∀ n, cellsS ((List.range n).map fun k => (ptAt pts k, ptAt pts (nxt pts k))) = segCells pts n := by
    intro n
    induction n with
    | zero => rfl
    | succ n ih => rw [List.range_succ, List.map_append, cellsS_append, ih]; simp [segCells, cellsS]
  exact this _
/-- A slice of segments of our own memory, or none. -/
def AnsS (base top : Nat) (W : World) (v : Value) (ss : List (P2 × P2)) : Prop :=
  (ss = [] ∧ ∃ a c, v = .slice a 0 c) ∨ ∃ g c, v = .slice (some ⟨g, 0, none⟩) ss.length c ∧ base ≤ g ∧ g < top ∧ ss.length ≤ c ∧ Own W g (c * 4) 75 ∧ SRow W g ss
theorem AnsS.below {base top : Nat} {W W' : World} {v : Value} {ss : List (P2 × P2)} (h : AnsS base top W v ss) (J : Below W.heap.size W W') : AnsS base top W' v ss := by
  rcases h with h | ⟨g, c, e, hb, ht, hc, hO, hS⟩
  · exact .inl h
  · exact .inr ⟨g, c, e, hb, ht, hc, hO.below J, hS.below J hO.lt⟩
theorem AnsS.only {base top r : Nat} {W W' : World} {v : Value} {ss : List (P2 × P2)} (h : AnsS base top W v ss) (O : Only r W W') (hr : r < base ∨ top ≤ r) : AnsS base top W' v ss := by
  rcases h with h | ⟨g, c, e, hb, ht, hc, hO, hS⟩
  · exact .inl h
  · have hne : g ≠ r := by omega
    exact .inr ⟨g, c, e, hb, ht, hc, hO.only O hne, hS.only O hne⟩
theorem AnsS.of_owns {base n : Nat} {W : World} {v : Value} {ss : List (P2 × P2)} (h : W.ownsRow base 75 4 v n (cellsS ss)) (hn : ss.length = n) : AnsS base W.heap.size W v ss := by
  subst hn
  have h' := h
  rcases h.2 with ⟨h1, h2⟩ | ⟨g, cap, cur, e, hb, hg, h1, h2, hs, ht⟩
  · refine .inl ⟨List.eq_nil_of_length_eq_zero h2, none, 0, ?_⟩
    rw [h1]
  · refine .inr ⟨g, cap, e, hb, (Array.getElem?_eq_some_iff.1 hg).1, h1, ⟨cur, hg, hs⟩, fun j hj => ?_⟩
    subst e
    have hc := h'.cells (g := g) rfl
    have add : ∀ k : Nat, (⟨g, 0, none⟩ : Addr).add k = ⟨g, k, none⟩ := fun k => by unfold Addr.add; split <;> simp_all
    obtain ⟨c0, c1, c2, c3⟩ := cellsS_at ss j hj
    have d0 := hc _ _ c0
    have d1 := hc _ _ c1
    have d2 := hc _ _ c2
    have d3 := hc _ _ c3
    rw [add] at d0 d1 d2 d3
    exact ⟨d0, d1, d2, d3⟩
end Go.Proofs.YtkncejcpeejkkaaGreatDoor
