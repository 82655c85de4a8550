/-
  OUR OWN TEXT. From points of the laws to points of the program; points held against points; by contract.
-/
import Derived.Test.YthjnfjnnpabenaaGreatDoorToPt
import Derived.Test.YthjnfjnnpabenaaGreatDoorEdgeS
import Derived.Test.YthjnfjnnpabenaaGreatDoorRoundQ
import Derived.OwnWalk
namespace Go.Proofs.YthjnfjnnpabenaaGreatDoor
open Go.RowKit Go.Sort

theorem Tryz.infoPt : (Tryz.prog.info? 73).map (fun i => (i.zero, i.size, i.bytes)) = some (some (.agg #[.int .i64 0, .int .i64 0]), 2, 16) := by kernel_rfl
/-- Points that came in. -/
def Came (W : World) (a : Option Addr) (len cap : Nat) (l : List P2) : Prop :=
  (a = none ∧ len = 0 ∧ cap = 0 ∧ l = []) ∨ ∃ x, a = some x ∧ len ≤ cap ∧ cap ≤ maxLen ∧ l.length = len ∧ ∀ j, j < len → W.cell? (x.add (j * 2)) = some (.int .i64 (ptAt l j).1) ∧ W.cell? (x.add (j * 2 + 1)) = some (.int .i64 (ptAt l j).2)
theorem Came.len {W : World} {a : Option Addr} {len cap : Nat} {l : List P2} (h : Came W a len cap l) : l.length = len ∧ len ≤ maxLen := by
  rcases h with ⟨rfl, rfl, rfl, rfl⟩ | ⟨x, rfl, h1, h2, h3, _⟩
  · exact ⟨rfl, by omega⟩
  · exact ⟨h3, by omega⟩
theorem spot_none {W : World} {a : Addr} {v : Value} (h : W.cell? a = some v) : a.spot = none := by
  unfold World.cell? at h
  split at h
  · split at h
    · cases h
    · rename_i h'; simpa using h'
  · cases h
theorem Came.pts {W : World} {a : Option Addr} {len cap : Nat} {l : List P2} (h : Came W a len cap l) : Pts W.heap.size W a len l := by
  refine ⟨h.len.1, ?_⟩
  rcases h with ⟨rfl, rfl, rfl, rfl⟩ | ⟨⟨b, off, sp⟩, rfl, h1, h2, h3, hc⟩
  · exact .inl rfl
  · rcases Nat.eq_zero_or_pos len with h0 | h0
    · exact .inl h0
    · have c0 := (hc 0 h0).1
      have e0 : (⟨b, off, sp⟩ : Addr).add (0 * 2) = ⟨b, off, sp⟩ := by simp [Addr.add]
      rw [e0] at c0
      have hs : sp = none := spot_none c0
      subst hs
      have add : ∀ k : Nat, (⟨b, off, none⟩ : Addr).add k = ⟨b, off + k, none⟩ := fun k => by unfold Addr.add; split <;> simp_all
      refine .inr ⟨b, off, rfl, World.block_lt_of_cell? _ _ c0, fun j hj => ?_⟩
      have := hc j hj
      rw [add, add] at this
      exact this
/-- A row of points of our own: its block. -/
def PtBlk (W : World) (g len : Nat) (l : List P2) (k : Nat) : Prop := ∃ cur : Array Value, W.heap[g]? = some (.cells cur 73 (0, 0)) ∧ cur.size = len * 2 ∧ ∀ j, j < k → cur[j * 2]? = some (.int .i64 (ptAt l j).1) ∧ cur[j * 2 + 1]? = some (.int .i64 (ptAt l j).2)
theorem PtBlk.lt {W : World} {g len k : Nat} {l : List P2} (h : PtBlk W g len l k) : g < W.heap.size := by obtain ⟨cur, h, _⟩ := h; exact (Array.getElem?_eq_some_iff.1 h).1
theorem PtBlk.below {W W' : World} {g len k : Nat} {l : List P2} (h : PtBlk W g len l k) (J : Below W.heap.size W W') : PtBlk W' g len l k := by
  have hl := h.lt
  obtain ⟨cur, h, r⟩ := h
  exact ⟨cur, (J.block g hl).trans h, r⟩
theorem setCell_row {W : World} {g i : Nat} {cur : Array Value} {e : TypeId} (h : W.heap[g]? = some (.cells cur e (0, 0))) (v : Value) : (W.setCell ⟨g, i, none⟩ v).heap[g]? = some (.cells (cur.setIfInBounds i v) e (0, 0)) := by
  obtain ⟨hlt, hk⟩ := Array.getElem?_eq_some_iff.1 h
  show (W.heap.modify g _)[g]? = _
  rw [Array.getElem?_eq_getElem (by rw [Array.size_modify]; exact hlt), Array.getElem_modify_self, hk]
  rfl
theorem row_cell {W : World} {g i : Nat} {cur : Array Value} {e : TypeId} (h : W.heap[g]? = some (.cells cur e (0, 0))) : W.cell? ⟨g, i, none⟩ = cur[i]? := by simp [World.cell?, h]
theorem row_frozen {W : World} {g i : Nat} {cur : Array Value} {e : TypeId} (h : W.heap[g]? = some (.cells cur e (0, 0))) : W.frozen? ⟨g, i, none⟩ = false := by simp [World.frozen?, h]
theorem PtBlk.pts {W : World} {g len : Nat} {l : List P2} (h : PtBlk W g len l len) (hl : l.length = len) : Pts W.heap.size W (some ⟨g, 0, none⟩) len l := by
  have hg := h.lt
  obtain ⟨cur, h, hs, hc⟩ := h
  refine ⟨hl, .inr ⟨g, 0, rfl, hg, fun j hj => ?_⟩⟩
  rw [Nat.zero_add, row_cell h, row_cell h]; exact hc j hj
theorem PtBlk.room {W : World} {g len k i : Nat} {l : List P2} (h : PtBlk W g len l k) (hi : i < len * 2) : (∃ u, W.cell? ⟨g, i, none⟩ = some u) ∧ W.frozen? ⟨g, i, none⟩ = false := by
  obtain ⟨cur, h, hs, _⟩ := h
  exact ⟨⟨cur[i]'(by omega), by rw [row_cell h]; exact Array.getElem?_eq_getElem _⟩, row_frozen h⟩
theorem PtBlk.step {W : World} {g len k : Nat} {l : List P2} (h : PtBlk W g len l k) (hk : k < len) :
    PtBlk ((W.setCell ⟨g, k * 2, none⟩ (.int .i64 (ptAt l k).1)).setCell ⟨g, k * 2 + 1, none⟩ (.int .i64 (ptAt l k).2)) g len l (k + 1) := by
  obtain ⟨cur, h, hs, hc⟩ := h
  refine ⟨_, setCell_row (setCell_row h _) _, by simpa using hs, fun j hj => ?_⟩
  simp only [Array.getElem?_setIfInBounds, Array.size_setIfInBounds, hs]
  rcases Nat.lt_or_ge j k with h1 | h1
  · have := hc j h1
    rw [if_neg (by omega), if_neg (by omega), if_neg (by omega), if_neg (by omega)]; exact this
  · obtain rfl : j = k := by omega
    rw [if_neg (by omega), if_pos rfl, if_pos (by omega), if_pos rfl, if_pos (by omega)]
    exact ⟨rfl, rfl⟩
theorem PtBlk.made {W : World} {base g len : Nat} {l : List P2} {xs : List Value} (h : W.ownsRow base 73 2 (.slice (some ⟨g, 0, none⟩) len len) len xs) : PtBlk W g len l 0 := by
  rcases h.2 with ⟨h, _⟩ | ⟨g', cap, cur, e, _, hg, _, _, hs, _⟩
  · cases h
  · cases e; exact ⟨cur, hg, hs, fun j hj => by omega⟩

end Go.Proofs.YthjnfjnnpabenaaGreatDoor
