/-
  OUR OWN TEXT. From points of the laws to points of the program; points held against points; by contract.
-/
import Derived.Test.YtfdnadiliedikaaDoorToPt
import Derived.Test.YtfdnadiliedikaaDoorEdgeS
import Derived.Test.YtfdnadiliedikaaDoorRoundQ
import Derived.OwnWalk
namespace Go.Proofs.YtfdnadiliedikaaDoor
open Go.RowKit Go.Sort

theorem Tryd.infoPt : (Tryd.prog.info? 42).map (fun i => (i.zero, i.size, i.bytes)) = some (some (.agg #[.int .i64 0, .int .i64 0]), 2, 16) := by kernel_rfl
/-- Points that came in. -/
def Came (W : World) (a : Option Addr) (len cap : Nat) (l : List P2) : Prop :=
  (a = none ∧ len = 0 ∧ cap = 0 ∧ l = []) ∨ ∃ x, a = some x ∧ len ≤ cap ∧ cap ≤ maxLen ∧ l.length = len ∧ ∀ j, j < len → W.cell? (x.add (j * 2)) = some (.int .i64 (ptAt l j).1) ∧ W.cell? (x.add (j * 2 + 1)) = some (.int .i64 (ptAt l j).2)
theorem Came.len {W : World} {a : Option Addr} {len cap : Nat} {l : List P2} (h : Came W a len cap l) : l.length = len ∧ len ≤ maxLen := by
  rcases h with ⟨rfl, rfl, rfl, rfl⟩ | ⟨x, rfl, h1, h2, h3, _⟩
  · exact ⟨rfl, by omega⟩
  · exact ⟨h3, by omega⟩
theorem spot_none {W : World} {a : Addr} {v : Value} (h : W.cell? a = some v) : a.spot = none := by
  unfold World.cell? at h
  split at h
  · split at h
    · cases h
    · rename_i h'; simpa using h'
  · cases h
theorem Came.pts {W : World} {a : Option Addr} {len cap : Nat} {l : List P2} (h : Came W a len cap l) : Pts W.heap.size W a len l := by
  refine ⟨h.len.1, ?_⟩
  rcases h with ⟨rfl, rfl, rfl, rfl⟩ | ⟨⟨b, off, sp⟩, rfl, h1, h2, h3, hc⟩
  · exact .inl rfl
  · rcases Nat.eq_zero_or_pos len with h0 | h0
    · exact .inl h0
    · have c0 := (hc 0 h0).1
      have e0 : (⟨b, off, sp⟩ : Addr).add (0 * 2) = ⟨b, off, sp⟩ := by simp [Addr.add]
      rw [e0] at c0
      have hs : sp = none := spot_none c0
      subst hs
      have add : ∀ k : Nat, (⟨b, off, none⟩ : Addr).add k = ⟨b, off + k, none⟩ := fun k => by unfold Addr.add; split <;> simp_all
      refine .inr ⟨b, off, rfl, World.block_lt_of_cell? _ _ c0, fun j hj => ?_⟩
      have := hc j hj
      rw [add, add] at this
      exact this
/-- A row of points of our own: its block. -/
def PtBlk (W : World) (g len : Nat) (l : List P2) (k : Nat) : Prop := ∃ cur : Array Value, W.heap[g]? = some (.cells cur 42 (0, 0)) ∧ cur.size = len * 2 ∧ ∀ j, j < k → cur[j * 2]? = some (.int .i64 (ptAt l j).1) ∧ cur[j * 2 + 1]? = some (.int .i64 (ptAt l j).2)
theorem PtBlk.lt {W : World} {g len k : Nat} {l : List P2} (h : PtBlk W g len l k) : g < W.heap.size := by obtain ⟨cur, h, _⟩ := h; exact (Array.getElem?_eq_some_iff.1 h).1
theorem PtBlk.below {W W' : World} {g len k : Nat} {l : List P2} (h : PtBlk W g len l k) (J : Below W.heap.size W W') : PtBlk W' g len l k := by
  have hl := h.lt
  obtain ⟨cur, h, r⟩ := h
  exact ⟨cur, (J.block g hl).trans h, r⟩
theorem setCell_row {W : World} {g i : Nat} {cur : Array Value} {e : TypeId} (h : W.heap[g]? = some (.cells cur e (0, 0))) (v : Value) : (W.setCell ⟨g, i, none⟩ v).heap[g]? = some (.cells (cur.setIfInBounds i v) e (0, 0)) := by
  obtain ⟨hlt, hk⟩ := Array.getElem?_eq_some_iff.1 h
  show (W.heap.modify g _)[g]? = _
  rw [Array.getElem?_eq_getElem (by rw [Array.size_modify]; exact hlt), Array.getElem_modify_self, hk]
  rfl
theorem row_cell {W : World} {g i : Nat} {cur : Array Value} {e : TypeId} (h : W.heap[g]? = some (.cells cur e (0, 0))) : W.cell? ⟨g, i, none⟩ = cur[i]? := by simp [World.cell?, h]
theorem row_frozen {W : World} {g i : Nat} {cur : Array Value} {e : TypeId} (h : W.heap[g]? = some (.cells cur e (0, 0))) : W.frozen? ⟨g, i, none⟩ = false := by simp [World.frozen?, h]
theorem PtBlk.pts {W : World} {g len : Nat} {l : List P2} (h : PtBlk W g len l len) (hl : l.length = len) : Pts W.heap.size W (some ⟨g, 0, none⟩) len l := by
  have hg := h.lt
  obtain ⟨cur, h, hs, hc⟩ := h
  refine ⟨hl, .inr ⟨g, 0, rfl, hg, fun j hj => ?_⟩⟩
  rw [Nat.zero_add, row_cell h, row_cell h]; exact hc j hj
theorem PtBlk.room {W : World} {g len k i : Nat} {l : List P2} (h : PtBlk W g len l k) (hi : i < len * 2) : (∃ u, W.cell? ⟨g, i, none⟩ = some u) ∧ W.frozen? ⟨g, i, none⟩ = false := by
  obtain ⟨cur, h, hs, _⟩ := h
  exact ⟨⟨cur[i]'(by omega), by rw [row_cell h]; exact Array.getElem?_eq_getElem _⟩, row_frozen h⟩
theorem PtBlk.step {W : World} {g len k : Nat} {l : List P2} (h : PtBlk W g len l k) (hk : k < len) :
    PtBlk ((W.setCell ⟨g, k * 2, none⟩ (.int .i64 (ptAt l k).1)).setCell ⟨g, k * 2 + 1, none⟩ (.int .i64 (ptAt l k).2)) g len l (k + 1) := by
  obtain ⟨cur, h, hs, hc⟩ := h
  refine ⟨_, setCell_row (setCell_row h _) _, by simpa using hs, fun j hj => ?_⟩
  simp only [Array.getElem?_setIfInBounds, Array.size_setIfInBounds, hs]
  rcases Nat.lt_or_ge j k with h1 | h1
  · have := hc j h1
    rw [if_neg (by omega), if_neg (by omega), if_neg (by omega), if_neg (by omega)]; exact this
  · obtain rfl : j = k := by omega
    rw [if_neg (by omega), if_pos rfl, if_pos (by omega), if_pos rfl, if_pos (by omega)]
    exact ⟨rfl, rfl⟩
theorem PtBlk.made {W : World} {base g len : Nat} {l : List P2} {xs : List Value} (h : W.ownsRow base 42 2 (.slice (some ⟨g, 0, none⟩) len len) len xs) : PtBlk W g len l 0 := by
  rcases h.2 with ⟨h, _⟩ | ⟨g', cap, cur, e, _, hg, _, _, hs, _⟩
  · cases h
  · cases e; exact ⟨cur, hg, hs, fun j hj => by omega⟩

theorem sz_any (a : Option Addr) (len cap : Nat) (left : Int) (h0 : 0 ≤ left) (h1 : left ≤ 1048576) (hlen : len ≤ maxLen) (w : World) :
    Calls Tryd.prog 20 #[.slice a len cap, .int .i64 left] w fun e w' => e = .returned (.int .i64 (if left < len then -1 else left - len)) ∧ w' = w := by
  unfold maxLen at hlen
  by_cases h : left < len
  · rw [if_pos h]
    have h' : left - (len : Int) < 0 := by omega
    go_enter Tryd.func20, Tryd.ntmps20
    go_wp2
    go_ret
    exact ⟨rfl, rfl⟩
  · rw [if_neg h]
    have h' : ¬ left - (len : Int) < 0 := by omega
    go_enter Tryd.func20, Tryd.ntmps20
    go_wp2
    go_ret
    exact ⟨rfl, rfl⟩
set_option maxRecDepth 100000 in
set_option maxHeartbeats 2000000 in
theorem toPts_any (a : Option Addr) (len cap : Nat) (l : List P2) (w : World) (hC : Pts w.heap.size w a len l) (hlen : len ≤ 1048576) :
    Calls Tryd.prog 21 #[.slice a len cap] w fun e w' => ∃ g, e = .returned (.slice (some ⟨g, 0, none⟩) len len) ∧ w.heap.size ≤ g ∧ PtBlk w' g len l len ∧ Below w.heap.size w w' := by
  obtain ⟨i0, hi0, hz0, hz1, hz2⟩ := info_parts Tryd.infoPt
  go_enter Tryd.func21, Tryd.ntmps21
  go_wp2_with (at_make; refine wpList_make_full _ rfl _ _ 23 rfl w.heap.size 42 i0 _ 2 Tryd.underlying23 hi0 hz0 hz1 .i64 .i64 _ _ len rfl rfl rfl rfl (by rw [hz2]; omega) (by simp [maxLen]; omega) (Nat.le_refl _) ?_; intro w1 hown hgr)
  have hb1 : PtBlk w1 w.heap.size len l 0 := PtBlk.made hown
  have hB1 : Below w.heap.size w w1 := (Below.refl _ _).grown hgr (Nat.le_refl _) (fun k e => by cases e)
  clear hown hgr
  go_loopw [4] (fun i wr => ∃ k : Nat, k ≤ len ∧ i = .int .i64 k ∧ PtBlk wr w.heap.size len l k ∧ Below w.heap.size w wr) (fun i _ => len - (intOf i).toNat)
  case atStart => exact ⟨0, Nat.zero_le _, rfl, hb1, hB1⟩
  case round =>
    obtain ⟨k, hk, rfl, hb, hnx⟩ := hrel
    by_cases hlt : k < len
    · rcases hC.2 with h0 | ⟨b, off, rfl, hbl, hc⟩
      · omega
      obtain ⟨c0, c1⟩ := hc k hlt
      have d0 := (hnx.cell (p := ⟨b, off + k * 2, none⟩) hbl).trans c0
      have d1 := (hnx.cell (p := ⟨b, off + k * 2 + 1, none⟩) hbl).trans c1
      clear hc
      go_wp2_with (go_at_call 49; refine (toPt_any _ _ _).mono ?_; rintro e w2 ⟨rfl, J⟩; have hb2 := hb.below J; obtain ⟨⟨s0, r0⟩, z0⟩ := hb2.room (i := k * 2) (by omega); obtain ⟨⟨s1, r1⟩, z1⟩ := hb2.room (i := k * 2 + 1) (by omega))
      go_roundw
      case rel => exact ⟨k + 1, by omega, by simp, hb2.step hlt, ((bw_trans hnx J).setCell (p := ⟨w.heap.size, k * 2, none⟩) (Nat.le_refl _) _).setCell (p := ⟨w.heap.size, k * 2 + 1, none⟩) (Nat.le_refl _) _⟩
      case measure => simp [intOf]; omega
    · obtain rfl : k = len := by omega
      go_wp2
      go_ret
      exact ⟨_, rfl, Nat.le_refl _, hb, hnx⟩
end Go.Proofs.YtfdnadiliedikaaDoor
