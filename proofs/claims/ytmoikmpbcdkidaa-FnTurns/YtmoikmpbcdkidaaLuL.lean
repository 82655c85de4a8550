/-
  OUR OWN TEXT. Points begun elsewhere, the other way about, on the other side, exchanged: the laws' own helpers, by contract.
-/
import Derived.Test.YtmoikmpbcdkidaaDrawL
import Derived.Test.YtmoikmpbcdkidaaLoopT
import Derived.Test.YtmoikmpbcdkidaaLu
namespace Go.Proofs.Ytmoikmpbcdkidaa
open Go.RowKit

/-- Points that were handed back, in memory of their own. -/
def AnsP (w : World) (m : List P2) (e : Ending) (w' : World) : Prop :=
  ∃ g' c', e = .returned (.slice (some ⟨g', 0, none⟩) m.length c') ∧ PtBlk w' g' c' m m.length ∧ Below w.heap.size w w'
theorem blk_cell {W : World} {g c n : Nat} {l : List P2} (h : PtBlk W g c l n) (hl : l.length = n) : ∀ (i : Nat) u, (ptCells l)[i]? = some u → W.cell? ⟨g, i, none⟩ = some u := by
  obtain ⟨cur, hg, hs, hc⟩ := h
  intro i u hu
  have hi : i < n * 2 := by
    rcases Nat.lt_or_ge i (n * 2) with h | h
    · exact h
    · rw [List.getElem?_eq_none (by rw [ptCells_len]; omega)] at hu; cases hu
  rw [row_cell hg]
  obtain ⟨c0, c1⟩ := hc (i / 2) (by omega)
  obtain ⟨a0, a1⟩ := ptCells_at l (i / 2) (by omega)
  rcases Nat.mod_two_eq_zero_or_one i with e | e
  · have e' : i = i / 2 * 2 := by omega
    rw [e', a0] at hu; rw [e', c0]; exact hu
  · have e' : i = i / 2 * 2 + 1 := by omega
    rw [e', a1] at hu; rw [e', c1]; exact hu
theorem ptCells_drop (l : List P2) (k : Nat) : ptCells (l.drop k) = (ptCells l).drop (k * 2) := by
  induction l generalizing k with
  | nil => simp [ptCells]
  | cons p l ih =>
    cases k with
    | zero => simp
    | succ k =>
      have e : ptCells (p :: l) = .int .i64 p.1 :: .int .i64 p.2 :: ptCells l := rfl
      have e1 : (k + 1) * 2 = k * 2 + 1 + 1 := by omega
      rw [List.drop_succ_cons, ih, e, e1]; rfl
theorem ptCells_take (l : List P2) (k : Nat) : ptCells (l.take k) = (ptCells l).take (k * 2) := by
  induction l generalizing k with
  | nil => simp [ptCells]
  | cons p l ih =>
    cases k with
    | zero => simp [ptCells]
    | succ k =>
      have e : ptCells (p :: l) = .int .i64 p.1 :: .int .i64 p.2 :: ptCells l := rfl
      have e1 : (k + 1) * 2 = k * 2 + 1 + 1 := by omega
      rw [List.take_succ_cons, e, e1, List.take_succ_cons, List.take_succ_cons, ← ih]; rfl
theorem of_take {α : Type} {l : List α} {m j : Nat} {u : α} (h : (l.take m)[j]? = some u) : l[j]? = some u := by
  rw [List.getElem?_take] at h; split at h
  · exact h
  · cases h
theorem ptCells_append (a b : List P2) : ptCells (a ++ b) = ptCells a ++ ptCells b := by simp [ptCells]
theorem ptCells_one (l : List P2) : ∀ u ∈ ptCells l, u.oneCell' = true := by
  intro u hu
  simp only [ptCells, List.mem_flatMap, List.mem_cons, List.not_mem_nil, or_false] at hu
  obtain ⟨p, _, rfl | rfl⟩ := hu <;> rfl
theorem news_at {W : World} {g c n k : Nat} {l m : List P2} (h : PtBlk W g c l n) (hl : l.length = n) (hm : ∀ (j : Nat) u, (ptCells m)[j]? = some u → (ptCells l)[k * 2 + j]? = some u) :
    ∀ j u, (ptCells m)[j]? = some u → W.cell? ((⟨g, k * 2, none⟩ : Addr).add j) = some u := fun j u hu => by
  have hadd : (⟨g, k * 2, none⟩ : Addr).add j = ⟨g, k * 2 + j, none⟩ := by unfold Addr.add; split <;> simp_all
  rw [hadd]; exact blk_cell h hl _ _ (hm j u hu)
theorem news_0 {W : World} {g c n : Nat} {l m : List P2} (h : PtBlk W g c l n) (hl : l.length = n) (hm : ∀ (j : Nat) u, (ptCells m)[j]? = some u → (ptCells l)[j]? = some u) :
    ∀ j u, (ptCells m)[j]? = some u → W.cell? ((⟨g, 0, none⟩ : Addr).add j) = some u := fun j u hu => by
  have hadd : (⟨g, 0, none⟩ : Addr).add j = ⟨g, j, none⟩ := by unfold Addr.add; split <;> simp_all
  rw [hadd]; exact blk_cell h hl _ _ (hm j u hu)
theorem blk_grown {W W' : World} {g c n : Nat} {l : List P2} {row : Option Nat} (h : PtBlk W g c l n) (hg : W.grownBy W' row) (hne : some g ≠ row) : PtBlk W' g c l n := by
  have hlt := h.lt
  obtain ⟨cur, h, hs⟩ := h
  exact ⟨cur, (hg.block g hlt hne).trans h, hs⟩
/-- Append, something being there behind it, as a step of a region that draws. -/
theorem step_append_more {P : Program} {w : World} {ops : Array Oper} {o : Oper} {a : Act} {K : Act → World → Prop} {Q : Exit → Act → World → Prop} {E : Prop} (hgd : o.guard = none) (s x : Operand) (t : TypeId)
    (ho : o.op = .call { callee := .builtin .append, args := #[s, x], argTypes := #[t, t] })
    (base : Nat) (e : TypeId) (i : TypeInfo) (z : Value) (size bytes : Nat) (ht : P.underlying t = some (.slice e)) (hi : P.info? e = some i) (hz : i.zero = some z)
    (hsize : i.size = size) (hby : i.bytes = bytes) (hzs : z.cells.size = size) (hsz : 0 < size)
    (v : Value) (n : Nat) (xs : List Value) (hs : a.eval s = v) (hown : w.ownsRow base e size v n xs)
    (ad : Addr) (m c : Nat) (news : List Value) (hx : a.eval x = .slice (some ad) m c) (hl : news.length = m * size) (hnews : ∀ j u, news[j]? = some u → w.cell? (ad.add j) = some u) (h1 : ∀ u ∈ news, u.oneCell' = true)
    (hm : 0 < n + m) (h63 : n + m ≤ maxLen) (hbytes : (n + m) * bytes ≤ 140737488355328) (hbase : base ≤ w.heap.size)
    (h : ∀ g cap w', w'.ownsRow base e size (.slice (some ⟨g, 0, none⟩) (n + m) cap) (n + m) (xs ++ news) → w.grownBy w' v.ownBlock → base ≤ g → K (a.put o.dst (.slice (some ⟨g, 0, none⟩) (n + m) cap)) w') :
    if Region.wanted o (yielded ops a.tmps) = true then Oper.wp P o a w K Q else E := by
  have hw : Region.wanted o (yielded ops a.tmps) = true := by simp [Region.wanted, hgd]
  rw [if_pos hw]
  obtain ⟨v', w', hr, h2, h3, _⟩ := run_append_own (P := P) w base t o.type e i z size bytes ht hi hz hsize hby hzs hsz v n xs hown ad m c news hl hnews h1 h63 hbytes hbase
  obtain ⟨g, cap, rfl, hb, _⟩ := h2.form hm
  unfold Oper.wp execOp
  simp only [ho, resolve, invoke, builtin, Sem.run_bind, Sem.run_pure, Result.andThen_ok, List.map_toArray, List.map_cons, List.map_nil, hs, hx, hr]
  exact h g cap w' h2 h3 hb
set_option maxRecDepth 100000 in
set_option maxHeartbeats 2000000 in
theorem luBackward_ok (g n c : Nat) (l : List P2) (w : World) (hb : PtBlk w g c l n) (hl : l.length = n) (hn1 : 1 ≤ n) (hn : n ≤ 100) :
    Calls Try.prog 21 #[.slice (some ⟨g, 0, none⟩) n c] w (AnsP w l.reverse) := by
  obtain ⟨i0, hi0, hz0, hz1, hz2⟩ := info_parts Try.infoPt
  have zg := hb.lt
  have hPt := hb.pts' hl
  obtain ⟨_, hPc⟩ := hPt
  rcases hPc with h0 | ⟨b, off, hbo, hbl, hcs⟩
  · omega
  cases hbo
  have HL : Hid (l.length = n) := hl
  clear hl
  go_enter Try.func21, Try.ntmps21
  go_wp2_with fail
  go_loopw [3, 4] (fun o i wr => ∃ k : Nat, k ≤ n ∧ i = .int .i64 ((n : Int) - 1 - k) ∧ wr.ownsRow w.heap.size 30 2 o k (ptCells (l.reverse.take k)) ∧ Below w.heap.size w wr) (fun _ i _ => (intOf i + 1).toNat)
  case atStart => exact ⟨0, Nat.zero_le _, by simp, World.ownsRow_made w #[] 0 (Nat.le_refl _) (by simp [maxLen]) rfl, (by repeat (first | exact bw_refl _ | assumption | apply bw_drewN | apply bw_drew | apply bw_alloc | refine bw_set ?_ (by simp) _))⟩
  case round =>
    obtain ⟨k, hk, rfl, hown, hnx⟩ := hrel
    by_cases hlt : k < n
    · obtain ⟨m, hm⟩ : ∃ m : Nat, n - 1 - k = m := ⟨_, rfl⟩
      have hmi : (n : Int) - 1 - k = (m : Int) := by omega
      have hmn : m < n := by omega
      rw [hmi]
      have d0 := (hnx.cell (p := ⟨g, 0 + m * 2, none⟩) hbl).trans (hcs m hmn).1
      have d1 := (hnx.cell (p := ⟨g, 0 + m * 2 + 1, none⟩) hbl).trans (hcs m hmn).2
      simp only [Nat.zero_add] at d0 d1
      have hsn : Hid (ptCells (l.reverse.take (k + 1)) = ptCells (l.reverse.take k) ++ [.int .i64 (ptAt l m).1, .int .i64 (ptAt l m).2]) := by
        change _ = _
        have e : l.reverse.take (k + 1) = l.reverse.take k ++ [ptAt l m] := by
          rw [List.take_add_one, List.getElem?_reverse (by rw [HL.out]; exact hlt), HL.out, hm]
          simp [ptAt, HL.out, hmn]
        rw [e, ptCells_snoc]
      have hzz := hnx.size
      have q1 : IntKind.i64.wrap ((m : Int) - 1) = (m : Int) - 1 := wrap_small (by omega) (by omega)
      go_wp2_with (at_builtin; refine wpList_append_lies _ rfl _ _ _ rfl w.heap.size 30 i0 _ 2 16 Try.underlying23 hi0 hz0 hz1 hz2 rfl (by omega) _ k _ rfl (hown.alloc _) ⟨wr.heap.size, 0, none⟩ 1 1 [.int .i64 (ptAt l m).1, .int .i64 (ptAt l m).2] rfl rfl (World.news_of_block (cs := #[.int .i64 (ptAt l m).1, .int .i64 (ptAt l m).2]) (t := 30) (fr := (0, 0)) (heap_alloc_new wr _)) (by simp [Value.oneCell']) (by omega) (by simp [maxLen]; omega) (by omega) (by simp; omega) (wr.heap.size + 1) (by simp) ?_; intro gg cap' w8 hown1 hgrow hat hlt1)
      go_roundw
      case rel => exact ⟨k + 1, by omega, by have e : (m : Int) - 1 = (n : Int) - 1 - ((k + 1 : Nat) : Int) := (by omega); rw [e], by rw [hsn.out]; exact hown1, (hnx.alloc hnx.size _).grown hgrow (by simp; omega) (fun j e => (hown.lt j e).1)⟩
      case measure => simp [intOf]
    · obtain rfl : k = n := by omega
      have hneg : ¬ (0 ≤ (k : Int) - 1 - k) := by omega
      have hneg2 : (k : Int) - 1 - k < 0 := by omega
      rw [List.take_of_length_le (by rw [List.length_reverse, HL.out]; exact Nat.le_refl _)] at hown
      obtain ⟨g2, c2, rfl, _, _⟩ := hown.form (by omega)
      obtain ⟨hb3, _, _, _⟩ := blk_of_own hown (by rw [List.length_reverse]; exact HL.out)
      go_wp2_with fail
      go_ret
      exact ⟨g2, c2, by rw [List.length_reverse, HL.out]; rfl, by rw [List.length_reverse, HL.out]; exact hb3, hnx⟩
theorem luPlace_f (p : P2) (h : ptB p.1 p.2 = true) (w : World) : Calls Try.prog 43 #[.agg #[.int .i64 p.1, .int .i64 p.2], .bool false] w fun e w' => e = .returned (.agg #[.int .i64 (mirP p).1, .int .i64 (mirP p).2]) ∧ Below w.heap.size w w' := by
  go_enter Try.func43, Try.ntmps43
  go_wp2_with fail
  refine (luMirror_ok p.1 p.2 _ h).mono ?_
  rintro e w1 ⟨rfl, J⟩
  obtain ⟨hc, hf⟩ := bcell J
  have z := J.size
  simp only [World.size_alloc] at z
  go_wp2_with fail
  exact bodyPost_ret (v := .agg #[.int .i64 (9 - p.1), .int .i64 p.2]) (by simp [results, Try.results43, go_sem, hc]) rfl ⟨rfl, bw_set (bw_set (bw_trans (by repeat (first | exact bw_refl _ | assumption | apply bw_drewN | apply bw_drew | apply bw_alloc | refine bw_set ?_ (by simp) _)) J) (by simp) _) (by simp) _⟩
theorem luPlace_t (p : P2) (w : World) : Calls Try.prog 43 #[.agg #[.int .i64 p.1, .int .i64 p.2], .bool true] w fun e w' => e = .returned (.agg #[.int .i64 (swpP p).1, .int .i64 (swpP p).2]) ∧ Below w.heap.size w w' := by
  go_enter Try.func43, Try.ntmps43
  go_wp2_with fail
  refine (luSwap_any p.1 p.2 _).mono ?_
  rintro e w1 ⟨rfl, J⟩
  obtain ⟨hc, hf⟩ := bcell J
  have z := J.size
  simp only [World.size_alloc] at z
  go_wp2_with fail
  exact bodyPost_ret (v := .agg #[.int .i64 p.2, .int .i64 p.1]) (by simp [results, Try.results43, go_sem, hc]) rfl ⟨rfl, bw_set (bw_set (bw_trans (by repeat (first | exact bw_refl _ | assumption | apply bw_drewN | apply bw_drew | apply bw_alloc | refine bw_set ?_ (by simp) _)) J) (by simp) _) (by simp) _⟩
set_option maxRecDepth 100000 in
set_option maxHeartbeats 2000000 in
theorem luOver_ok (f : P2 → P2) (sw : Bool) (g n c : Nat) (l : List P2) (w : World) (hf : ∀ i, i < n → ∀ w, Calls Try.prog 43 #[.agg #[.int .i64 (ptAt l i).1, .int .i64 (ptAt l i).2], .bool sw] w fun e w' => e = .returned (.agg #[.int .i64 (f (ptAt l i)).1, .int .i64 (f (ptAt l i)).2]) ∧ Below w.heap.size w w')
    (hb : PtBlk w g c l n) (hl : l.length = n) (hn1 : 1 ≤ n) (hn : n ≤ 100) :
    Calls Try.prog 20 #[.slice (some ⟨g, 0, none⟩) n c, .bool sw] w (AnsP w (l.map f)) := by
  obtain ⟨i0, hi0, hz0, hz1, hz2⟩ := info_parts Try.infoPt
  have zg := hb.lt
  obtain ⟨_, hPc⟩ := hb.pts' hl
  rcases hPc with h0 | ⟨b, off, hbo, hbl, hcs⟩
  · omega
  cases hbo
  have HL : Hid (l.length = n) := hl
  have HF : Hid (∀ i, i < n → ∀ w, Calls Try.prog 43 #[.agg #[.int .i64 (ptAt l i).1, .int .i64 (ptAt l i).2], .bool sw] w fun e w' => e = .returned (.agg #[.int .i64 (f (ptAt l i)).1, .int .i64 (f (ptAt l i)).2]) ∧ Below w.heap.size w w') := hf
  clear hl hf
  go_enter Try.func20, Try.ntmps20
  go_wp2_with fail
  go_loopw [5, 6] (fun o i wr => ∃ k : Nat, k ≤ n ∧ i = .int .i64 k ∧ wr.ownsRow w.heap.size 30 2 o k (ptCells ((l.map f).take k)) ∧ Below w.heap.size w wr) (fun _ i _ => n - (intOf i).toNat)
  case atStart => exact ⟨0, Nat.zero_le _, by simp, World.ownsRow_made w #[] 0 (Nat.le_refl _) (by simp [maxLen]) rfl, (by repeat (first | exact bw_refl _ | assumption | apply bw_drewN | apply bw_drew | apply bw_alloc | refine bw_set ?_ (by simp) _))⟩
  case round =>
    obtain ⟨k, hk, rfl, hown, hnx⟩ := hrel
    by_cases hlt : k < n
    · have d0 := (hnx.cell (p := ⟨g, 0 + k * 2, none⟩) hbl).trans (hcs k hlt).1
      have d1 := (hnx.cell (p := ⟨g, 0 + k * 2 + 1, none⟩) hbl).trans (hcs k hlt).2
      simp only [Nat.zero_add] at d0 d1
      have hsn : Hid (ptCells ((l.map f).take (k + 1)) = ptCells ((l.map f).take k) ++ [.int .i64 (f (ptAt l k)).1, .int .i64 (f (ptAt l k)).2]) := by
        change _ = _
        have e : (l.map f).take (k + 1) = (l.map f).take k ++ [f (ptAt l k)] := by
          rw [List.take_add_one]
          simp [ptAt, HL.out, hlt]
        rw [e, ptCells_snoc]
      have hzz := hnx.size
      have hcall := HF.out k hlt wr
      go_wp2_with (first | (go_at_call 43; refine hcall.mono ?_; rintro e w7 ⟨rfl, J⟩; have hown7 := hown.kept (w' := w7) (row := none) ⟨J.os, J.tape, J.output, J.size, fun j hj _ => J.block j hj⟩ (Classical.em _); have hn7 := bw_trans hnx J; have hz7 := hn7.size) | (at_builtin; refine wpList_append_lies _ rfl _ _ _ rfl w.heap.size 30 i0 _ 2 16 Try.underlying23 hi0 hz0 hz1 hz2 rfl (by omega) _ k _ rfl (hown7.alloc _) ⟨w7.heap.size, 0, none⟩ 1 1 [.int .i64 (f (ptAt l k)).1, .int .i64 (f (ptAt l k)).2] rfl rfl (World.news_of_block (cs := #[.int .i64 (f (ptAt l k)).1, .int .i64 (f (ptAt l k)).2]) (t := 30) (fr := (0, 0)) (heap_alloc_new w7 _)) (by simp [Value.oneCell']) (by omega) (by simp [maxLen]; omega) (by omega) (by simp; omega) (w7.heap.size + 1) (by simp) ?_; intro gg cap' w8 hown1 hgrow hat hlt1))
      go_roundw
      case rel => exact ⟨k + 1, by omega, by simp, by rw [hsn.out]; exact hown1, (hn7.alloc hn7.size _).grown hgrow (by simp; omega) (fun j e => (hown7.lt j e).1)⟩
      case measure => simp [intOf]; omega
    · obtain rfl : k = n := by omega
      rw [List.take_of_length_le (by rw [List.length_map, HL.out]; exact Nat.le_refl _)] at hown
      obtain ⟨g2, c2, rfl, _, _⟩ := hown.form (by omega)
      obtain ⟨hb3, _, _, _⟩ := blk_of_own hown (by rw [List.length_map]; exact HL.out)
      go_wp2_with fail
      go_ret
      exact ⟨g2, c2, by rw [List.length_map, HL.out]; rfl, by rw [List.length_map, HL.out]; exact hb3, hnx⟩
end Go.Proofs.Ytmoikmpbcdkidaa
