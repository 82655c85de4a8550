/-
  OUR OWN TEXT. The specification's edges of points, by contract.
-/
import Derived.Test.YthjnfjnnpabenaaGreatDoorEdgeK
import Derived.Test.YthjnfjnnpabenaaGreatDoorBoxes
import Derived.OwnWalk
import Derived.Laws.Pointers
import Derived.Deep.RegionHeld3
import Derived.Deep.AppendLies
import Derived.Deep.DrawnRows
namespace Go.Proofs.YthjnfjnnpabenaaGreatDoor
open Go.RowKit Go.Sort

theorem Tryz.infoSeg : (Tryz.prog.info? 93).map (fun i => (i.zero, i.size, i.bytes)) = some (some (.agg #[.int .i64 0, .int .i64 0, .int .i64 0, .int .i64 0]), 4, 32) := by kernel_rfl
/-- The cells of a segment; of the first k edges. -/
def seg4 (a b : P2) : List Value := [.int .i64 a.1, .int .i64 a.2, .int .i64 b.1, .int .i64 b.2]
def segCells (pts : List P2) : Nat → List Value
  | 0 => []
  | k + 1 => segCells pts k ++ seg4 (ptAt pts k) (ptAt pts (nxt pts k))
theorem segCells_len (pts : List P2) (k : Nat) : (segCells pts k).length = k * 4 := by
  induction k with
  | zero => rfl
  | succ k ih => simp only [segCells, List.length_append, ih, seg4, List.length_cons, List.length_nil]; omega
theorem segCells_at (pts : List P2) (k j : Nat) (hj : j < k) :
    (segCells pts k)[j * 4]? = some (.int .i64 (ptAt pts j).1) ∧ (segCells pts k)[j * 4 + 1]? = some (.int .i64 (ptAt pts j).2) ∧ (segCells pts k)[j * 4 + 2]? = some (.int .i64 (ptAt pts (nxt pts j)).1) ∧ (segCells pts k)[j * 4 + 3]? = some (.int .i64 (ptAt pts (nxt pts j)).2) := by
  induction k with
  | zero => omega
  | succ k ih =>
    have hl := segCells_len pts k
    simp only [segCells]
    rcases Nat.lt_or_ge j k with h | h
    · rw [List.getElem?_append_left (by omega), List.getElem?_append_left (by omega), List.getElem?_append_left (by omega), List.getElem?_append_left (by omega)]
      exact ih h
    · obtain rfl : j = k := by omega
      rw [List.getElem?_append_right (by omega), List.getElem?_append_right (by omega), List.getElem?_append_right (by omega), List.getElem?_append_right (by omega), hl]
      have e0 : j * 4 - j * 4 = 0 := by omega
      have e1 : j * 4 + 1 - j * 4 = 1 := by omega
      have e2 : j * 4 + 2 - j * 4 = 2 := by omega
      have e3 : j * 4 + 3 - j * 4 = 3 := by omega
      rw [e0, e1, e2, e3]
      exact ⟨rfl, rfl, rfl, rfl⟩
/-- A row of edges, its cells. -/
def SegRow (W : World) (g len : Nat) (pts : List P2) : Prop := ∀ j, j < len → W.cell? ⟨g, j * 4, none⟩ = some (.int .i64 (ptAt pts j).1) ∧ W.cell? ⟨g, j * 4 + 1, none⟩ = some (.int .i64 (ptAt pts j).2) ∧ W.cell? ⟨g, j * 4 + 2, none⟩ = some (.int .i64 (ptAt pts (nxt pts j)).1) ∧ W.cell? ⟨g, j * 4 + 3, none⟩ = some (.int .i64 (ptAt pts (nxt pts j)).2)
theorem SegRow.of_owns {W : World} {base g len cap : Nat} {e : TypeId} {pts : List P2} (h : W.ownsRow base e 4 (.slice (some ⟨g, 0, none⟩) len cap) len (segCells pts len)) : SegRow W g len pts := by
  intro j hj
  have hc := h.cells (g := g) rfl
  have add : ∀ k : Nat, (⟨g, 0, none⟩ : Addr).add k = ⟨g, k, none⟩ := fun k => by unfold Addr.add; split <;> simp_all
  obtain ⟨c0, c1, c2, c3⟩ := segCells_at pts len j hj
  have d0 := hc _ _ c0
  have d1 := hc _ _ c1
  have d2 := hc _ _ c2
  have d3 := hc _ _ c3
  rw [add] at d0 d1 d2 d3
  exact ⟨d0, d1, d2, d3⟩
theorem SegRow.below {W W' : World} {g len : Nat} {pts : List P2} (h : SegRow W g len pts) (k : Below W.heap.size W W') (hg : g < W.heap.size) : SegRow W' g len pts := fun j hj => by
  obtain ⟨c0, c1, c2, c3⟩ := h j hj
  exact ⟨(k.cell (p := ⟨g, j * 4, none⟩) hg).trans c0, (k.cell (p := ⟨g, j * 4 + 1, none⟩) hg).trans c1, (k.cell (p := ⟨g, j * 4 + 2, none⟩) hg).trans c2, (k.cell (p := ⟨g, j * 4 + 3, none⟩) hg).trans c3⟩

set_option maxRecDepth 100000 in
set_option maxHeartbeats 4000000 in
theorem sEdges_ok (b off len cap : Nat) (pts : List P2) (w : World) (hl : Hid (pts.length = len)) (h1 : 1 ≤ len) (h8 : len ≤ 1048576) (hb : b < w.heap.size)
    (hc : ∀ j, j < len → w.cell? ⟨b, off + j * 2, none⟩ = some (.int .i64 (ptAt pts j).1) ∧ w.cell? ⟨b, off + j * 2 + 1, none⟩ = some (.int .i64 (ptAt pts j).2)) :
    Calls Tryz.prog 60 #[.slice (some ⟨b, off, none⟩) len cap] w fun e w' => ∃ v, e = .returned v ∧ w'.ownsRow w.heap.size 93 4 v len (segCells pts len) ∧ Below w.heap.size w w' := by
  obtain ⟨i0, hi0, hz0, hz1, hz2⟩ := info_parts Tryz.infoSeg
  go_enter Tryz.func60, Tryz.ntmps60
  go_wp2
  go_loopw [3, 4] (fun o i wr => ∃ k : Nat, k ≤ len ∧ i = .int .i64 k ∧ wr.ownsRow w.heap.size 93 4 o k (segCells pts k) ∧ Below w.heap.size w wr) (fun _ i _ => len - (intOf i).toNat)
  case atStart => exact ⟨0, Nat.zero_le _, rfl, World.ownsRow_made w #[] 0 (Nat.le_refl _) (by simp [maxLen]) rfl, (Below.refl _ _).alloc (Nat.le_refl _) _⟩
  case round =>
    obtain ⟨k, hk, rfl, hown, hnx⟩ := hrel
    by_cases hlt : k < len
    · have hm : nxt pts k < len := by have := nxt_lt (l := pts) (i := k) (by rw [hl.out]; omega); rwa [hl.out] at this
      have hbr : b < wr.heap.size := by have := hnx.size; omega
      have d0 : wr.cell? ⟨b, off + k * 2, none⟩ = some (.int .i64 (ptAt pts k).1) := (hnx.cell (p := ⟨b, off + k * 2, none⟩) hb).trans (hc k hlt).1
      have d1 : wr.cell? ⟨b, off + k * 2 + 1, none⟩ = some (.int .i64 (ptAt pts k).2) := (hnx.cell (p := ⟨b, off + k * 2 + 1, none⟩) hb).trans (hc k hlt).2
      have d2 : wr.cell? ⟨b, off + nxt pts k * 2, none⟩ = some (.int .i64 (ptAt pts (nxt pts k)).1) := (hnx.cell (p := ⟨b, off + nxt pts k * 2, none⟩) hb).trans (hc _ hm).1
      have d3 : wr.cell? ⟨b, off + nxt pts k * 2 + 1, none⟩ = some (.int .i64 (ptAt pts (nxt pts k)).2) := (hnx.cell (p := ⟨b, off + nxt pts k * 2 + 1, none⟩) hb).trans (hc _ hm).2
      have hz : (len = 0) = False := by simp; omega
      have hq : IntKind.i64.wrap ((k : Int) + 1) = (k : Int) + 1 := wrap_small (by omega) (by omega)
      have hq1 : ((k : Int) + 1).tmod (len : Int) = (nxt pts k : Int) := by
        rw [Int.tmod_eq_emod_of_nonneg (by omega)]; unfold nxt; rw [hl.out]; simp
      have i0' : (0 : Int) ≤ (k : Int) := Int.natCast_nonneg _
      have i1 : (k : Int) < (len : Int) := by omega
      have i2 : (0 : Int) ≤ (nxt pts k : Int) := Int.natCast_nonneg _
      have i3 : (nxt pts k : Int) < (len : Int) := by omega
      have ob : u3.ownBlock ≠ some b := fun e => by have := (hown.lt b e).1; omega
      go_wp2_with fail
      go_region_held3 (fun w' => w'.cell? ⟨b, off + k * 2, none⟩ = some (.int .i64 (ptAt pts k).1) ∧ w'.cell? ⟨b, off + k * 2 + 1, none⟩ = some (.int .i64 (ptAt pts k).2) ∧
          w'.cell? ⟨b, off + nxt pts k * 2, none⟩ = some (.int .i64 (ptAt pts (nxt pts k)).1) ∧ w'.cell? ⟨b, off + nxt pts k * 2 + 1, none⟩ = some (.int .i64 (ptAt pts (nxt pts k)).2))
        (first
          | go_keep
          | (go_split_ands
             refine ⟨?_, ?_, ?_, ?_⟩
             · (rw [hgrow.cell_far _ (by simp; omega) (Ne.symm ob)]; assumption)
             · (rw [hgrow.cell_far _ (by simp; omega) (Ne.symm ob)]; assumption)
             · (rw [hgrow.cell_far _ (by simp; omega) (Ne.symm ob)]; assumption)
             · (rw [hgrow.cell_far _ (by simp; omega) (Ne.symm ob)]; assumption)))
        ((refine step_append_lies _ (by rfl) _ _ _ (by rfl) w.heap.size 93 i0 _ 4 32 Tryz.underlying96 hi0 hz0 hz1 hz2 rfl (by omega) u3 k (segCells pts k) (by rfl) ((hown.alloc _).drew)
            ⟨wr.heap.size, 0, none⟩ 1 1 (seg4 (ptAt pts k) (ptAt pts (nxt pts k))) (by rfl) (by rfl) (World.news_of_block (cs := #[.int .i64 (ptAt pts k).1, .int .i64 (ptAt pts k).2, .int .i64 (ptAt pts (nxt pts k)).1, .int .i64 (ptAt pts (nxt pts k)).2]) (t := 93) (fr := (0, 0)) (heap_alloc_new wr _)) (by simp [seg4, Value.oneCell'])
            (by omega) (by simp [maxLen]; omega) (by omega) (by have := hnx.size; simp; omega) (wr.heap.size + 1) (by simp) ?_; intro gg cap' w1 hown1 hgrow hat hlt1))
      all_goals go_wp2
      all_goals go_roundw
      case rel => exact ⟨k + 1, by omega, by simp, hown1, ((hnx.alloc hnx.size _).drew).grown hgrow (by have := hnx.size; simp; omega) (fun j e => (hown.lt j e).1)⟩
      case measure => simp [intOf]; omega
    · obtain rfl : k = len := by omega
      go_wp2
      go_ret
      exact ⟨_, rfl, hown, hnx⟩
end Go.Proofs.YthjnfjnnpabenaaGreatDoor
