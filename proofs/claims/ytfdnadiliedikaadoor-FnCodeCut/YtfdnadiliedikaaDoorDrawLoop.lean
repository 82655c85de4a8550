/-
  OUR OWN TEXT. The specification's drawn loops, by contract: whatever the bytes are, points of our own memory are handed back; nothing that was there is written.
-/
import Derived.Test.YtfdnadiliedikaaDoorBox
import Derived.Test.YtfdnadiliedikaaDoorToPts
import Derived.Deep.AppendLies
import Derived.Deep.DrawnRows
namespace Go.Proofs.YtfdnadiliedikaaDoor
open Go.RowKit

theorem ptCells_at (l : List P2) (j : Nat) (hj : j < l.length) : (ptCells l)[j * 2]? = some (.int .i64 (ptAt l j).1) ∧ (ptCells l)[j * 2 + 1]? = some (.int .i64 (ptAt l j).2) := by
  induction l generalizing j with
  | nil => simp at hj
  | cons p l ih =>
    cases j with
    | zero => exact ⟨rfl, rfl⟩
    | succ j =>
      have := ih j (by simpa using hj)
      have e : ptCells (p :: l) = .int .i64 p.1 :: .int .i64 p.2 :: ptCells l := rfl
      have e1 : (j + 1) * 2 = j * 2 + 1 + 1 := by omega
      rw [e, e1]
      simpa [ptAt] using this
theorem ptCells_snoc (l : List P2) (p : P2) : ptCells (l ++ [p]) = ptCells l ++ [.int .i64 p.1, .int .i64 p.2] := by simp [ptCells]
theorem blk_of_own {W : World} {base g n c : Nat} {l : List P2} (h : W.ownsRow base 42 2 (.slice (some ⟨g, 0, none⟩) n c) n (ptCells l)) (hl : l.length = n) : PtBlk W g c l n ∧ n ≤ c ∧ c ≤ maxLen ∧ base ≤ g := by
  rcases h.2 with ⟨h, _⟩ | ⟨g', c', cur, e, hb, hg, h1, h2, hs, ht⟩
  · cases h
  · cases e
    refine ⟨⟨cur, hg, hs, fun j hj => ?_⟩, h1, h2, hb⟩
    obtain ⟨a0, a1⟩ := ptCells_at l j (by omega)
    rw [← ht] at a0 a1
    rw [List.getElem?_take_of_lt (by omega)] at a0 a1
    rw [Array.getElem?_toList] at a0 a1
    exact ⟨a0, a1⟩
theorem own_of_blk {W : World} {base g n c : Nat} {l : List P2} (h : PtBlk W g c l n) (hl : l.length = n) (h1 : n ≤ c) (h2 : c ≤ maxLen) (hb : base ≤ g) : W.ownsRow base 42 2 (.slice (some ⟨g, 0, none⟩) n c) n (ptCells l) := by
  obtain ⟨cur, hg, hs, hc⟩ := h
  refine own_lit hg hb hs h1 h2 hl ?_
  apply List.ext_getElem?
  intro i
  rcases Nat.lt_or_ge i (n * 2) with hi | hi
  · rw [List.getElem?_take_of_lt hi]
    obtain ⟨c0, c1⟩ := hc (i / 2) (by omega)
    obtain ⟨a0, a1⟩ := ptCells_at l (i / 2) (by omega)
    rcases Nat.mod_two_eq_zero_or_one i with e | e
    · have : i = i / 2 * 2 := by omega
      rw [this, a0]; simpa using c0
    · have : i = i / 2 * 2 + 1 := by omega
      rw [this, a1]; simpa using c1
  · rw [List.getElem?_eq_none (by simp; omega), List.getElem?_eq_none (by rw [ptCells_len]; omega)]
theorem blk_set {W : World} {g n c idx : Nat} {l : List P2} {x y : Int} (h : PtBlk W g c l n) (hl : l.length = n) (hn : n ≤ c) (hi : idx < n) :
    PtBlk ((W.setCell ⟨g, idx * 2, none⟩ (.int .i64 x)).setCell ⟨g, idx * 2 + 1, none⟩ (.int .i64 y)) g c (l.set idx (x, y)) n := by
  obtain ⟨cur, h, hs, hc⟩ := h
  refine ⟨_, setCell_row (setCell_row h _) _, by simpa using hs, fun j hj => ?_⟩
  simp only [Array.getElem?_setIfInBounds, Array.size_setIfInBounds, hs]
  by_cases e : idx = j
  · subst e
    have : ptAt (l.set idx (x, y)) idx = (x, y) := by simp [ptAt, hl, hi]
    rw [if_neg (by omega), if_pos rfl, if_pos (by omega), if_pos rfl, if_pos (by omega), this]
    exact ⟨rfl, rfl⟩
  · have : ptAt (l.set idx (x, y)) j = ptAt l j := by simp [ptAt, e]
    rw [if_neg (by omega), if_neg (by omega), if_neg (by omega), if_neg (by omega), this]; exact hc j hj
theorem blk_only {W W' : World} {g n c r : Nat} {l : List P2} (h : PtBlk W g c l n) (O : Only r W W') (hne : g ≠ r) : PtBlk W' g c l n := by
  have hlt := h.lt
  obtain ⟨cur, h, hs⟩ := h
  exact ⟨cur, (O.block g hne hlt).trans h, hs⟩
theorem Rd.grown {w w' : World} {r k len cap : Nat} {a : Option Addr} {row : Option Nat} (h : Rd w r k a len cap) (hg : w.grownBy w' row) (hr : ∀ j, row = some j → r < j) : Rd w' r k a len cap := by
  refine ⟨(hg.block r h.lt (fun e => by have := hr r e.symm; omega)).trans h.1, ?_⟩
  rcases h.2 with h0 | ⟨b, o, z, ha, hb', hb, hz⟩
  · exact .inl h0
  · refine .inr ⟨b, o, z, ha, hb', Nat.lt_of_lt_of_le hb hg.size, fun i hi => ?_⟩
    obtain ⟨hc, g1, g2⟩ := hz i hi
    exact ⟨(World.cell?_of_block (w := w) (a := ⟨b, o + i, none⟩) (hg.block b hb (fun e => by have := hr b e.symm; omega))).trans hc, g1, g2⟩
theorem Only.grown {r : Nat} {a b c : World} {row : Option Nat} (h : Only r a b) (hg : b.grownBy c row) (hr : ∀ j, row = some j → a.heap.size ≤ j) : Only r a c :=
  ⟨hg.os.trans h.os, hg.tape.trans h.tape, hg.output.trans h.output, Nat.le_trans h.size hg.size, fun j hjr hj => (hg.block j (Nat.lt_of_lt_of_le hj h.size) (fun e => by have := hr j e.symm; omega)).trans (h.block j hjr hj)⟩
/-- What a drawn loop is. -/
def DrawnL (base r : Nat) (a : Option Addr) (len cap k : Nat) (w : World) (e : Ending) (w' : World) : Prop :=
  ∃ (g n c : Nat) (l : List P2) (k' : Nat), e = .returned (.slice (some ⟨g, 0, none⟩) n c) ∧ 3 ≤ n ∧ n ≤ 7 ∧ l.length = n ∧ n ≤ c ∧ c ≤ maxLen ∧ base ≤ g ∧ PtBlk w' g c l n ∧ k' ≤ k ∧ Rd w' r k' a len cap ∧ Only r w w'
end Go.Proofs.YtfdnadiliedikaaDoor
