/-
  OUR OWN TEXT. The specification's drawn loops, by contract: whatever the bytes are, points of our own memory are handed back; nothing that was there is written.
-/
import Derived.Test.YthjnfjnnpabenaaGreatDoorBox
import Derived.Test.YthjnfjnnpabenaaGreatDoorToPts
import Derived.Deep.AppendLies
import Derived.Deep.DrawnRows
namespace Go.Proofs.YthjnfjnnpabenaaGreatDoor
open Go.RowKit

theorem ptCells_at (l : List P2) (j : Nat) (hj : j < l.length) : (ptCells l)[j * 2]? = some (.int .i64 (ptAt l j).1) ∧ (ptCells l)[j * 2 + 1]? = some (.int .i64 (ptAt l j).2) := by
  induction l generalizing j with
  | nil => simp at hj
  | cons p l ih =>
    cases j with
    | zero => exact ⟨rfl, rfl⟩
    | succ j =>
      have := ih j (by simpa using hj)
      have e : ptCells (p :: l) = .int .i64 p.1 :: .int .i64 p.2 :: ptCells l := rfl
      have e1 : (j + 1) * 2 = j * 2 + 1 + 1 := by omega
      rw [e, e1]
      simpa [ptAt] using this
theorem ptCells_snoc (l : List P2) (p : P2) : ptCells (l ++ [p]) = ptCells l ++ [.int .i64 p.1, .int .i64 p.2] := by simp [ptCells]
theorem blk_of_own {W : World} {base g n c : Nat} {l : List P2} (h : W.ownsRow base 73 2 (.slice (some ⟨g, 0, none⟩) n c) n (ptCells l)) (hl : l.length = n) : PtBlk W g c l n ∧ n ≤ c ∧ c ≤ maxLen ∧ base ≤ g := by
  rcases h.2 with ⟨h, _⟩ | ⟨g', c', cur, e, hb, hg, h1, h2, hs, ht⟩
  · cases h
  · cases e
    refine ⟨⟨cur, hg, hs, fun j hj => ?_⟩, h1, h2, hb⟩
    obtain ⟨a0, a1⟩ := ptCells_at l j (by omega)
    rw [← ht] at a0 a1
    rw [List.getElem?_take_of_lt (by omega)] at a0 a1
    rw [Array.getElem?_toList] at a0 a1
    exact ⟨a0, a1⟩
theorem own_of_blk {W : World} {base g n c : Nat} {l : List P2} (h : PtBlk W g c l n) (hl : l.length = n) (h1 : n ≤ c) (h2 : c ≤ maxLen) (hb : base ≤ g) : W.ownsRow base 73 2 (.slice (some ⟨g, 0, none⟩) n c) n (ptCells l) := by
  obtain ⟨cur, hg, hs, hc⟩ := h
  refine own_lit hg hb hs h1 h2 hl ?_
  apply List.ext_getElem?
  intro i
  rcases Nat.lt_or_ge i (n * 2) with hi | hi
  · rw [List.getElem?_take_of_lt hi]
    obtain ⟨c0, c1⟩ := hc (i / 2) (by omega)
    obtain ⟨a0, a1⟩ := ptCells_at l (i / 2) (by omega)
    rcases Nat.mod_two_eq_zero_or_one i with e | e
    · have : i = i / 2 * 2 := by omega
      rw [this, a0]; simpa using c0
    · have : i = i / 2 * 2 + 1 := by omega
      rw [this, a1]; simpa using c1
  · rw [List.getElem?_eq_none (by simp; omega), List.getElem?_eq_none (by rw [ptCells_len]; omega)]
theorem blk_set {W : World} {g n c idx : Nat} {l : List P2} {x y : Int} (h : PtBlk W g c l n) (hl : l.length = n) (hn : n ≤ c) (hi : idx < n) :
    PtBlk ((W.setCell ⟨g, idx * 2, none⟩ (.int .i64 x)).setCell ⟨g, idx * 2 + 1, none⟩ (.int .i64 y)) g c (l.set idx (x, y)) n := by
  obtain ⟨cur, h, hs, hc⟩ := h
  refine ⟨_, setCell_row (setCell_row h _) _, by simpa using hs, fun j hj => ?_⟩
  simp only [Array.getElem?_setIfInBounds, Array.size_setIfInBounds, hs]
  by_cases e : idx = j
  · subst e
    have : ptAt (l.set idx (x, y)) idx = (x, y) := by simp [ptAt, hl, hi]
    rw [if_neg (by omega), if_pos rfl, if_pos (by omega), if_pos rfl, if_pos (by omega), this]
    exact ⟨rfl, rfl⟩
  · have : ptAt (l.set idx (x, y)) j = ptAt l j := by simp [ptAt, e]
    rw [if_neg (by omega), if_neg (by omega), if_neg (by omega), if_neg (by omega), this]; exact hc j hj
theorem blk_only {W W' : World} {g n c r : Nat} {l : List P2} (h : PtBlk W g c l n) (O : Only r W W') (hne : g ≠ r) : PtBlk W' g c l n := by
  have hlt := h.lt
  obtain ⟨cur, h, hs⟩ := h
  exact ⟨cur, (O.block g hne hlt).trans h, hs⟩
theorem Rd.grown {w w' : World} {r k len cap : Nat} {a : Option Addr} {row : Option Nat} (h : Rd w r k a len cap) (hg : w.grownBy w' row) (hr : ∀ j, row = some j → r < j) : Rd w' r k a len cap := by
  refine ⟨(hg.block r h.lt (fun e => by have := hr r e.symm; omega)).trans h.1, ?_⟩
  rcases h.2 with h0 | ⟨b, o, z, ha, hb', hb, hz⟩
  · exact .inl h0
  · refine .inr ⟨b, o, z, ha, hb', Nat.lt_of_lt_of_le hb hg.size, fun i hi => ?_⟩
    obtain ⟨hc, g1, g2⟩ := hz i hi
    exact ⟨(World.cell?_of_block (w := w) (a := ⟨b, o + i, none⟩) (hg.block b hb (fun e => by have := hr b e.symm; omega))).trans hc, g1, g2⟩
theorem Only.grown {r : Nat} {a b c : World} {row : Option Nat} (h : Only r a b) (hg : b.grownBy c row) (hr : ∀ j, row = some j → a.heap.size ≤ j) : Only r a c :=
  ⟨hg.os.trans h.os, hg.tape.trans h.tape, hg.output.trans h.output, Nat.le_trans h.size hg.size, fun j hjr hj => (hg.block j (Nat.lt_of_lt_of_le hj h.size) (fun e => by have := hr j e.symm; omega)).trans (h.block j hjr hj)⟩
/-- What a drawn loop is. -/
def DrawnL (base r : Nat) (a : Option Addr) (len cap k : Nat) (w : World) (e : Ending) (w' : World) : Prop :=
  ∃ (g n c : Nat) (l : List P2) (k' : Nat), e = .returned (.slice (some ⟨g, 0, none⟩) n c) ∧ 3 ≤ n ∧ n ≤ 7 ∧ l.length = n ∧ n ≤ c ∧ c ≤ maxLen ∧ base ≤ g ∧ PtBlk w' g c l n ∧ k' ≤ k ∧ Rd w' r k' a len cap ∧ Only r w w'
set_option maxRecDepth 100000 in
set_option maxHeartbeats 8000000 in
theorem loop_any (k : Nat) (a : Option Addr) (len cap r : Nat) (w : World) (hk : k ≤ 800000) (R : Rd w r k a len cap) :
    Calls Tryz.prog 48 #[.pointer (some ⟨r, 0, none⟩)] w (DrawnL w.heap.size r a len cap (k + 60) w) := by
  obtain ⟨i0, hi0, hz0, hz1, hz2⟩ := info_parts Tryz.infoPt
  have hlt := R.lt
  go_enter Tryz.func48, Tryz.ntmps48
  go_wp2_with fail
  refine (pick_rd 5 k a len cap r _ (by omega) (by omega) R).mono ?_
  clear R
  rintro e w1 ⟨x, rfl, xa, xb, R, P⟩
  go_wp2_with fail
  refine (pick_rd 5 (k + 1) a len cap r _ (by omega) (by omega) R).mono ?_
  clear R
  rintro e w2 ⟨y, rfl, ya, yb, R, O⟩
  replace P := P.trans O
  clear O
  go_wp2_with fail
  refine (pick_rd (9 - x) (k + 1 + 1) a len cap r _ (by omega) (by omega) R).mono ?_
  clear R
  rintro e w3 ⟨u, rfl, ua, ub, R, O⟩
  replace P := P.trans O
  clear O
  go_wp2_with fail
  refine (pick_rd (9 - y) (k + 1 + 1 + 1) a len cap r _ (by omega) (by omega) R).mono ?_
  clear R
  rintro e w4 ⟨v, rfl, va, vb, R, O⟩
  replace P := P.trans O
  clear O
  go_wp2_with fail
  refine (box_any (k + 1 + 1 + 1 + 1) a len cap r x y (1 + u) (1 + v) _ (by omega) R (by omega) (by omega) (by omega) (by omega) (by omega) (by omega) (by omega) (by omega)).mono ?_
  clear R
  rintro e w5 ⟨g, n, c, l, k5, rfl, n3, n6, hl, hown, hk5, R, O⟩
  obtain ⟨hb, hnc, hcm, hbg⟩ := blk_of_own hown hl
  have z4 := P.size
  replace P := P.trans O
  clear O hown
  have hgr : g ≠ r := by omega
  have hgw : w.heap.size ≤ g := by omega
  go_wp2_with fail
  refine (pick_rd 12 k5 a len cap r _ (by omega) (by omega) R).mono ?_
  clear R
  rintro e w6 ⟨q, rfl, qa, qb, R, O⟩
  replace P := P.trans O
  replace hb := blk_only hb O hgr
  clear O
  have zg := hb.lt
  have zr := R.lt
  have hq : q = 0 ∨ q = 1 ∨ q = 2 ∨ (q ≠ 0 ∧ q ≠ 1 ∧ q ≠ 2) := by omega
  rcases hq with rfl | rfl | rfl | ⟨q0, q1, q2⟩
  · go_wp2_with fail
    refine (l71Pt_any (k5 + 1) a len cap r _ (by omega) R).mono ?_
    clear R
    rintro e w7 ⟨s, t, k7, rfl, _, hk7, R, O⟩
    replace P := P.trans O
    replace hb := blk_only hb O hgr
    clear O
    have z7 := P.size
    have zr7 := R.lt
    have hown := own_of_blk hb hl hnc hcm hgw
    go_wp2_with (at_builtin; refine wpList_append_lies _ rfl _ _ _ rfl w.heap.size 73 i0 _ 2 16 Tryz.underlying22 hi0 hz0 hz1 hz2 rfl (by omega) _ n (ptCells l) rfl (hown.alloc _) ⟨w7.heap.size, 0, none⟩ 1 1 [.int .i64 s, .int .i64 t] rfl rfl (World.news_of_block (cs := #[.int .i64 s, .int .i64 t]) (t := 73) (fr := (0, 0)) (heap_alloc_new w7 _)) (by simp [Value.oneCell']) (by omega) (by simp [maxLen]; omega) (by omega) (by simp; omega) (w7.heap.size + 1) (by simp) ?_; intro gg cap' w8 hown1 hgrow hat hlt1)
    go_ret
    have hown2 : w8.ownsRow w.heap.size 73 2 (.slice (some ⟨gg, 0, none⟩) (n + 1) cap') (n + 1) (ptCells (l ++ [(s, t)])) := by rw [ptCells_snoc]; exact hown1
    obtain ⟨hb2, hnc2, hcm2, hbg2⟩ := blk_of_own hown2 (by simp [hl])
    exact ⟨gg, n + 1, cap', l ++ [(s, t)], k7, rfl, by omega, by omega, by simp [hl], hnc2, hcm2, hbg2, hb2, by omega, (R.alloc _).grown hgrow (fun j e => by cases e; show r < g; omega), (P.alloc _).grown hgrow (fun j e => by cases e; exact hgw)⟩
  · go_wp2_with fail
    refine (pick_rd (n : Int) (k5 + 1) a len cap r _ (by omega) (by omega) R).mono ?_
    clear R
    rintro e w7 ⟨j, rfl, ja, jb, R, O⟩
    obtain ⟨j, rfl⟩ := Int.eq_ofNat_of_zero_le ja
    replace P := P.trans O
    replace hb := blk_only hb O hgr
    clear O
    go_wp2_with fail
    refine (l71Pt_any (k5 + 1 + 1) a len cap r _ (by omega) R).mono ?_
    clear R
    rintro e w8 ⟨s, t, k8, rfl, _, hk8, R, O⟩
    replace P := P.trans O
    replace hb := blk_only hb O hgr
    clear O
    have hj : j < n := by omega
    have zr8 := R.lt
    obtain ⟨⟨s0, r0⟩, y0⟩ := hb.room (i := j * 2) (by omega)
    obtain ⟨⟨s1, r1⟩, y1⟩ := hb.room (i := j * 2 + 1) (by omega)
    go_wp2_with fail
    go_ret
    exact ⟨g, n, c, _, k8, rfl, n3, by omega, by simpa using hl, hnc, hcm, hgw, blk_set hb hl hnc hj, by omega, (R.set (by show r < g; omega) _).set (by show r < g; omega) _, (P.set (.inr hgw) _).set (.inr hgw) _⟩
  · go_wp2_with fail
    refine (pick_rd 6 (k5 + 1) a len cap r _ (by omega) (by omega) R).mono ?_
    clear R
    rintro e w7 ⟨m0, rfl, ma, mb, R, O⟩
    replace P := P.trans O
    replace hb := blk_only hb O hgr
    clear O
    have hnz : (n = 0) = False := by simp; omega
    go_wp2_with fail
    go_loopw [6] (fun i wr => ∃ (m : Int) (l' : List P2) (k' : Nat), i = .int .i64 m ∧ -1 ≤ m ∧ m ≤ 5 ∧ l'.length = n ∧ PtBlk wr g c l' n ∧ (k' : Int) ≤ k5 + 2 + 4 * (5 - m) ∧ Rd wr r k' a len cap ∧ Only r w wr) (fun i _ => (intOf i + 1).toNat)
    case atStart => exact ⟨m0, l, k5 + 1 + 1, rfl, by omega, by omega, hl, hb, by omega, R, P⟩
    case round =>
      obtain ⟨m, l', k', rfl, m1, m2, hl', hb', hk', R', P'⟩ := hrel
      by_cases hm : 0 ≤ m
      · obtain ⟨idx, hidx⟩ : ∃ idx : Nat, m.tmod (n : Int) = (idx : Int) := ⟨(m.tmod (n : Int)).toNat, by rw [Int.toNat_of_nonneg]; exact (tmod_bd m n hm (by omega)).1⟩
        have hix : idx < n := by have := (tmod_bd m (n : Int) hm (by omega)).2; omega
        have i1 : (0 : Int) ≤ (idx : Int) := Int.natCast_nonneg _
        have i2 : (idx : Int) < (n : Int) := by omega
        have hX := l71Pt_any k' a len cap r wr.drew (by omega) R'.drew
        go_wp2_with fail
        go_region_held3 (fun _ => True) (trivial) ((go_at_call 49; refine hX.mono ?_; rintro e w8 ⟨s, t, k8, rfl, hPB, hk8, R8, O8⟩; have hb8 := blk_only (show PtBlk wr.drew g c l' n from hb') O8 hgr; obtain ⟨⟨s0, r0⟩, y0⟩ := hb8.room (i := idx * 2) (by omega); obtain ⟨⟨s1, r1⟩, y1⟩ := hb8.room (i := idx * 2 + 1) (by omega)))
        go_wp2_with fail
        go_roundw
        case rel => exact ⟨m - 1, l'.set idx (s, t), k8, by simp, by omega, by omega, by simpa using hl', blk_set hb8 hl' hnc hix, by omega, (R8.set (by show r < g; omega) _).set (by show r < g; omega) _, ((P'.drew.trans O8).set (.inr hgw) _).set (.inr hgw) _⟩
        case measure => simp [intOf]; omega
      · have hm' : ¬ (m ≥ 0) := hm
        go_wp2_with fail
        go_ret
        exact ⟨g, n, c, l', k', rfl, n3, by omega, hl', hnc, hcm, hgw, hb', by omega, R', P'⟩
  · have e0 : (q == 0) = false := by simpa using q0
    have e1 : (q == 1) = false := by simpa using q1
    have e2 : (q == 2) = false := by simpa using q2
    go_wp2_with fail
    go_ret
    exact ⟨g, n, c, l, k5 + 1, rfl, n3, by omega, hl, hnc, hcm, hgw, hb, by omega, R, P⟩
end Go.Proofs.YthjnfjnnpabenaaGreatDoor
