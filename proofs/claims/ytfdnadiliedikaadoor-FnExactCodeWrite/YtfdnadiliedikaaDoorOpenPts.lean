/-
  OUR OWN TEXT. Points that came in: the numbers in them.
-/
import Derived.Test.YtfdnadiliedikaaDoorToPts
import Derived.Test.YtfdnadiliedikaaDoorOpenSeg
import Derived.Deep.SlicePairs
namespace Go.Proofs.YtfdnadiliedikaaDoor
open Go.ChangeShapes Go.WideShapes Go.ChangeAt Go.RowKit Go.Joins

set_option maxRecDepth 100000 in
theorem open_pts {H : Type} {enc : TypeId × Value → H} {W : World} {base : Nat} {spare : Nat → Bool} {held : Bool} {a : Option Addr} {len cap : Nat} {d : DataW H} {p : List MemPlace} (h : DataW.Trod enc Tryd.prog W base spare held 34 (.slice a len cap) d p) :
    ∃ l, Came W a len cap l := by
  have hI : Tryd.prog.cellsOf 3 = 1 := by kernel_rfl
  obtain ⟨fuel, hf⟩ := h
  rcases Go.Deep.open_slice_pairs Tryd.underlying34 Tryd.underlying72 (by kernel_rfl) rfl rfl hI hI hf with ⟨hcs, _⟩ | ⟨x, len', cap', m, n, V0, V1, D0, D1, P0, P1, hcs, _, hl, hm, hmm, _, hx⟩
  · simp [Value.cells] at hcs
    obtain ⟨rfl, rfl, rfl⟩ := hcs
    exact ⟨[], .inl ⟨rfl, rfl, rfl, rfl⟩⟩
  · simp [Value.cells] at hcs
    obtain ⟨rfl, rfl, rfl⟩ := hcs
    have hlm : len ≤ m := by rw [hmm]; split <;> omega
    refine ⟨(List.range len).map fun i => (intOf (V0 i), intOf (V1 i)), .inr ⟨x, rfl, hl, hm, by simp, fun j hj => ?_⟩⟩
    obtain ⟨c0, c1, t0, t1⟩ := hx j (by omega)
    obtain ⟨u, eu, _, _⟩ := DataW.trod_int Tryd.underlying3 t0
    obtain ⟨v, ev, _, _⟩ := DataW.trod_int Tryd.underlying3 t1
    simp at eu ev
    have e : ptAt ((List.range len).map fun i => (intOf (V0 i), intOf (V1 i))) j = (u, v) := by
      simp [ptAt, hj, eu, ev, intOf]
    rw [e, c0, c1, eu, ev]
    exact ⟨rfl, rfl⟩
end Go.Proofs.YtfdnadiliedikaaDoor
