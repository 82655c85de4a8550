/-
  OUR OWN TEXT. A plate that came in: its loops, and the numbers in them.
-/
import Derived.Test.YtfnhbdanfnpdeaaDoorOpenPts
import Derived.Test.YtfnhbdanfnpdeaaDoorBack
import Derived.Deep.Slices
namespace Go.Proofs.YtfnhbdanfnpdeaaDoor
open Go.ChangeShapes Go.WideShapes Go.ChangeAt Go.RowKit Go.Joins

/-- Loops that came in. -/
def CameH (W : World) (ah : Option Addr) (nh : Nat) (hs : List (List P2)) : Prop :=
  hs.length = nh ∧ nh ≤ maxLen ∧ ∃ (A : Nat → Option Addr) (L C : Nat → Nat), SlcRow W.heap.size W ah nh A L C ∧ ∀ j, j < nh → Came W (A j) (L j) (C j) (hs[j]?.getD [])
theorem open_pts_cells {H : Type} {enc : TypeId × Value → H} {W : World} {base : Nat} {spare : Nat → Bool} {held : Bool} {fuel : Nat} {v : Value} {y : DataW H × List MemPlace} (h : DataW.trod enc Tryd.prog W base spare held fuel 22 [v] = some y) :
    ∃ (q : Option Addr × Nat × Nat × List P2), v = .slice q.1 q.2.1 q.2.2.1 ∧ Came W q.1 q.2.1 q.2.2.1 q.2.2.2 := by
  have hsl : ∃ a len cap, v = .slice a len cap := by
    rcases Go.Deep.open_slice Tryd.underlying22 h with ⟨hcs, _⟩ | ⟨x, len, cap, m, n, D, Pl, hcs, _⟩
    · simp at hcs; exact ⟨_, _, _, hcs⟩
    · simp at hcs; exact ⟨_, _, _, hcs⟩
  obtain ⟨a, len, cap, rfl⟩ := hsl
  obtain ⟨l, hl⟩ := open_pts (a := a) (len := len) (cap := cap) ⟨fuel, by simpa [Value.cells] using h⟩
  exact ⟨(a, len, cap, l), rfl, hl⟩
set_option maxRecDepth 100000 in
theorem open_ptss {H : Type} {enc : TypeId × Value → H} {W : World} {base : Nat} {spare : Nat → Bool} {held : Bool} {fuel : Nat} {v : Value} {y : DataW H × List MemPlace} (h : DataW.trod enc Tryd.prog W base spare held fuel 33 [v] = some y) :
    ∃ ah nh ch hs, v = .slice ah nh ch ∧ CameH W ah nh hs := by
  rcases Go.Deep.open_slice1 Tryd.underlying33 (by kernel_rfl) h with ⟨hcs, _⟩ | h2
  · simp at hcs
    subst hcs
    exact ⟨none, 0, 0, [], rfl, rfl, Nat.zero_le _, fun _ => none, fun _ => 0, fun _ => 0, .inl rfl, fun j hj => by omega⟩
  · obtain ⟨x, len, cap, m, n, V, D, Pl, hcs, _, hl, hm, hmm, _, hx⟩ := h2
    simp at hcs
    subst hcs
    have hlm : len ≤ m := by rw [hmm]; split <;> omega
    obtain ⟨f, hf⟩ := Go.Deep.choose_lt (n := len) (p := fun i (q : Option Addr × Nat × Nat × List P2) => V i = .slice q.1 q.2.1 q.2.2.1 ∧ Came W q.1 q.2.1 q.2.2.1 q.2.2.2) (fun i hi => open_pts_cells (hx i (by omega)).2)
    have hget : ∀ j, j < len → ((List.range len).map fun i => (f i).2.2.2)[j]?.getD [] = (f j).2.2.2 := fun j hj => by simp [hj]
    refine ⟨some x, len, cap, (List.range len).map fun i => (f i).2.2.2, rfl, by simp, by omega, fun j => (f j).1, fun j => (f j).2.1, fun j => (f j).2.2.1, ?_, fun j hj => by rw [hget j hj]; exact (hf j hj).2⟩
    rcases Nat.eq_zero_or_pos len with h0 | h0
    · exact .inl h0
    · obtain ⟨b, off, sp⟩ := x
      have c0 := (hx 0 (by omega)).1
      have e0 : (⟨b, off, sp⟩ : Addr).add 0 = ⟨b, off, sp⟩ := by simp [Addr.add]
      rw [e0] at c0
      have hs : sp = none := spot_none c0
      subst hs
      have add : ∀ k : Nat, (⟨b, off, none⟩ : Addr).add k = ⟨b, off + k, none⟩ := fun k => by unfold Addr.add; split <;> simp_all
      refine .inr ⟨b, off, rfl, World.block_lt_of_cell? _ _ c0, fun j hj => ?_⟩
      have := (hx j (by omega)).1
      rw [add, (hf j hj).1] at this
      exact this
set_option maxRecDepth 100000 in
theorem open_plate {H : Type} {enc : TypeId × Value → H} {W : World} {base : Nat} {spare : Nat → Bool} {held : Bool} {r : Reach} {b0 : Nat} {v : Value} {d : DataW H} {p : List MemPlace} (hv : Value.okWide Tryd.prog W r b0 35 v) (h : DataW.Trod enc Tryd.prog W base spare held 35 v d p) :
    ∃ a la ca o ah nh ch hs, v = .agg #[.slice a la ca, .slice ah nh ch] ∧ Came W a la ca o ∧ CameH W ah nh hs := by
  have h1 : Tryd.prog.cellsOf 22 = 1 := by kernel_rfl
  have h2 : Tryd.prog.cellsOf 33 = 1 := by kernel_rfl
  obtain ⟨cs, rfl, hsz⟩ := okWide_struct Tryd.underlying35 hv
  obtain ⟨c0, c1, rfl⟩ := array2 (hsz.trans (show Tryd.prog.cellsOf 35 = 2 by kernel_rfl))
  obtain ⟨fuel, hf⟩ := h
  obtain ⟨y0, y1, m, _, _, t0, t1⟩ := trod_struct2 Tryd.underlying35 hf
  obtain ⟨q, rfl, hq⟩ := open_pts_cells (v := c0) (by simpa [Value.cells, h1] using t0)
  obtain ⟨ah, nh, ch, hs, rfl, hh⟩ := open_ptss (v := c1) (by simpa [Value.cells, h1, h2] using t1)
  exact ⟨q.1, q.2.1, q.2.2.1, q.2.2.2, ah, nh, ch, hs, rfl, hq, hh⟩
end Go.Proofs.YtfnhbdanfnpdeaaDoor
