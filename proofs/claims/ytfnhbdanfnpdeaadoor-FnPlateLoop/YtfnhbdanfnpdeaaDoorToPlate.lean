/-
  OUR OWN TEXT. From plates of the laws to plates of the program, by contract.
-/
import Derived.Test.YtfnhbdanfnpdeaaDoorToPts
import Derived.Test.YtfnhbdanfnpdeaaDoorEqPts
import Derived.Test.YtfnhbdanfnpdeaaDoorBoard
import Derived.Deep.Slices
namespace Go.Proofs.YtfnhbdanfnpdeaaDoor
open Go.RowKit Go.Sort

theorem Tryd.infoPts : (Tryd.prog.info? 25).map (fun i => (i.zero, i.size, i.bytes)) = some (some (.slice none 0 0), 1, 24) := by kernel_rfl
/-- The hole at a place. -/
def hAt (hs : List (List P2)) (j : Nat) : List P2 := hs[j]?.getD []
/-- A row of loops of our own: its block, and the blocks of its loops. -/
def HRow (W : World) (g n : Nat) (hs : List (List P2)) (k : Nat) : Prop :=
  ∃ cur : Array Value, W.heap[g]? = some (.cells cur 25 (0, 0)) ∧ cur.size = n ∧ ∀ j, j < k → ∃ gj, g < gj ∧ cur[j]? = some (.slice (some ⟨gj, 0, none⟩) (hAt hs j).length (hAt hs j).length) ∧ PtBlk W gj (hAt hs j).length (hAt hs j) (hAt hs j).length
theorem HRow.lt {W : World} {g n k : Nat} {hs : List (List P2)} (h : HRow W g n hs k) : g < W.heap.size := by obtain ⟨cur, h, _⟩ := h; exact (Array.getElem?_eq_some_iff.1 h).1
theorem HRow.below {W W' : World} {g n k : Nat} {hs : List (List P2)} (h : HRow W g n hs k) (J : Below W.heap.size W W') : HRow W' g n hs k := by
  have hl := h.lt
  obtain ⟨cur, h, r, f⟩ := h
  exact ⟨cur, (J.block g hl).trans h, r, fun j hj => by obtain ⟨gj, h1, h2, h3⟩ := f j hj; exact ⟨gj, h1, h2, h3.below J⟩⟩
theorem HRow.room {W : World} {g n k i : Nat} {hs : List (List P2)} (h : HRow W g n hs k) (hi : i < n) : (∃ u, W.cell? ⟨g, i, none⟩ = some u) ∧ W.frozen? ⟨g, i, none⟩ = false := by
  obtain ⟨cur, h, hs, _⟩ := h
  exact ⟨⟨cur[i]'(by omega), by rw [row_cell h]; exact Array.getElem?_eq_getElem _⟩, row_frozen h⟩
theorem blk_setOther {W : World} {g len k : Nat} {l : List P2} {B i : Nat} (h : PtBlk W g len l k) (hne : g ≠ B) (v : Value) : PtBlk (W.setCell ⟨B, i, none⟩ v) g len l k := by
  obtain ⟨cur, h, r⟩ := h
  exact ⟨cur, (Below.heap_setCell W ⟨B, i, none⟩ v g hne).trans h, r⟩
theorem HRow.step {W : World} {g n k : Nat} {hs : List (List P2)} (h : HRow W g n hs k) (hk : k < n) {gk : Nat} (hne : g < gk) (hb : PtBlk W gk (hAt hs k).length (hAt hs k) (hAt hs k).length) :
    HRow (W.setCell ⟨g, k, none⟩ (.slice (some ⟨gk, 0, none⟩) (hAt hs k).length (hAt hs k).length)) g n hs (k + 1) := by
  obtain ⟨cur, h, hs', hc⟩ := h
  refine ⟨_, setCell_row h _, by simpa using hs', fun j hj => ?_⟩
  simp only [Array.getElem?_setIfInBounds, hs']
  rcases Nat.lt_or_ge j k with h1 | h1
  · obtain ⟨gj, e1, e2, e3⟩ := hc j h1
    exact ⟨gj, e1, by rw [if_neg (by omega)]; exact e2, blk_setOther e3 (by omega) _⟩
  · obtain rfl : j = k := by omega
    exact ⟨gk, hne, by rw [if_pos rfl, if_pos (by omega)], blk_setOther hb (by omega) _⟩
theorem HRow.other {W : World} {g n k B i : Nat} {hs : List (List P2)} (h : HRow W g n hs k) (hB : B < g) (v : Value) : HRow (W.setCell ⟨B, i, none⟩ v) g n hs k := by
  obtain ⟨cur, h, r, f⟩ := h
  exact ⟨cur, (Below.heap_setCell W ⟨B, i, none⟩ v g (by show g ≠ B; omega)).trans h, r, fun j hj => by obtain ⟨gj, h1, h2, h3⟩ := f j hj; exact ⟨gj, h1, h2, blk_setOther h3 (by omega) v⟩⟩
theorem HRow.made {W : World} {base g n : Nat} {hs : List (List P2)} {xs : List Value} (h : W.ownsRow base 25 1 (.slice (some ⟨g, 0, none⟩) n n) n xs) : HRow W g n hs 0 := by
  rcases h.2 with ⟨h, _⟩ | ⟨g', cap, cur, e, _, hg, _, _, hs, _⟩
  · cases h
  · cases e; exact ⟨cur, hg, by simpa using hs, fun j hj => by omega⟩
/-- A plate of our own. -/
theorem plt_of {W : World} {g gh la nh : Nat} {o : List P2} {hs : List (List P2)} (hb : PtBlk W g la o la) (ho : o.length = la) (hla : la ≤ 1048576) (hr : HRow W gh nh hs nh) (hn : hs.length = nh) (hL : ∀ j, j < nh → (hAt hs j).length ≤ 1048576) :
    Plt W (some ⟨g, 0, none⟩) la (some ⟨gh, 0, none⟩) nh o hs := by
  have hl := hr.lt
  obtain ⟨cur, h, hsz, hc⟩ := hr
  obtain ⟨f, hf⟩ := Go.Deep.choose_lt (n := nh) (p := fun j gj => gh < gj ∧ cur[j]? = some (.slice (some ⟨gj, 0, none⟩) (hAt hs j).length (hAt hs j).length) ∧ PtBlk W gj (hAt hs j).length (hAt hs j) (hAt hs j).length) hc
  refine ⟨hla, hb.pts ho, hn, fun j => some ⟨f j, 0, none⟩, fun j => (hAt hs j).length, fun j => (hAt hs j).length, .inr ⟨gh, 0, rfl, hl, fun j hj => ?_⟩, fun j hj => ⟨hL j hj, (hf j hj).2.2.pts rfl⟩⟩
  rw [Nat.zero_add, row_cell h]; exact (hf j hj).2.1
set_option maxRecDepth 100000 in
set_option maxHeartbeats 2000000 in
theorem toPtSS_any (ah : Option Addr) (nh ch : Nat) (hs : List (List P2)) (A : Nat → Option Addr) (L C : Nat → Nat) (w : World) (hS : SlcRow w.heap.size w ah nh A L C) (hH : ∀ j, j < nh → L j ≤ 1048576 ∧ Pts w.heap.size w (A j) (L j) (hAt hs j)) (hn : nh ≤ 1048576) :
    Calls Tryd.prog 37 #[.slice ah nh ch] w fun e w' => ∃ g, e = .returned (.slice (some ⟨g, 0, none⟩) nh nh) ∧ w.heap.size ≤ g ∧ HRow w' g nh hs nh ∧ Below w.heap.size w w' := by
  obtain ⟨i0, hi0, hz0, hz1, hz2⟩ := info_parts Tryd.infoPts
  go_enter Tryd.func37, Tryd.ntmps37
  go_wp2_with (at_make; refine wpList_make_full _ rfl _ _ 38 rfl w.heap.size 25 i0 _ 1 Tryd.underlying38 hi0 hz0 hz1 .i64 .i64 _ _ nh rfl rfl rfl rfl (by rw [hz2]; omega) (by simp [maxLen]; omega) (Nat.le_refl _) ?_; intro w1 hown hgr)
  have hb1 : HRow w1 w.heap.size nh hs 0 := HRow.made hown
  have hB1 : Below w.heap.size w w1 := (Below.refl _ _).grown hgr (Nat.le_refl _) (fun k e => by cases e)
  clear hown hgr
  go_loopw [4] (fun i wr => ∃ k : Nat, k ≤ nh ∧ i = .int .i64 k ∧ HRow wr w.heap.size nh hs k ∧ Below w.heap.size w wr) (fun i _ => nh - (intOf i).toNat)
  case atStart => exact ⟨0, Nat.zero_le _, rfl, hb1, hB1⟩
  case round =>
    obtain ⟨k, hk, rfl, hb, hnx⟩ := hrel
    by_cases hlt : k < nh
    · rcases hS with h0 | ⟨b, off, rfl, hbl, hc⟩
      · omega
      have c0 := (hnx.cell (p := ⟨b, off + k, none⟩) hbl).trans (hc k hlt)
      obtain ⟨hLk, hPk⟩ := hH k hlt
      have hlk : (hAt hs k).length = L k := hPk.1
      have hcall := toPts_any (A k) (L k) (C k) (hAt hs k) wr ((hPk.below hnx).grow hnx.size) hLk
      have zg := hb.lt
      clear hc hH
      go_wp2_with (go_at_call 9; refine hcall.mono ?_; rintro e w2 ⟨gk, rfl, hgk, hbk, J⟩; have hb2 := hb.below J; obtain ⟨⟨s0, r0⟩, z0⟩ := hb2.room (i := k) hlt)
      go_roundw
      case rel => exact ⟨k + 1, by omega, by simp, by rw [← hlk]; exact hb2.step hlt (by omega) (by rw [hlk]; exact hbk), (bw_trans hnx J).setCell (p := ⟨w.heap.size, k, none⟩) (Nat.le_refl _) _⟩
      case measure => simp [intOf]; omega
    · obtain rfl : k = nh := by omega
      go_wp2
      go_ret
      exact ⟨_, rfl, Nat.le_refl _, hb, hnx⟩
end Go.Proofs.YtfnhbdanfnpdeaaDoor
