/-
  OUR OWN TEXT. The program's writing of a path, by contract; condition: the library's table of powers of ten lies as its initialiser lays it.
-/
import Derived.Test.YtfdnadiliedikaaDoorSent
import Derived.Test.YtfdnadiliedikaaDoorCodeU
import Derived.Test.YtfdnadiliedikaaDoorLuL
import Derived.OwnWalk
import Derived.Shelf.Strings.MapGrows
namespace Go.Proofs.YtfdnadiliedikaaDoor
open Go.RowKit Go.Sort Go.Conc

theorem cells_app' (a b : List UInt8) : Lib.byteCells (a ++ b) = Lib.byteCells a ++ Lib.byteCells b := by unfold Lib.byteCells; rw [List.map_append]
theorem cells_len' (a : List UInt8) : (Lib.byteCells a).length = a.length := by unfold Lib.byteCells; rw [List.length_map]
theorem Tryd.infoS2 : (Tryd.prog.info? 9).map (fun i => (i.zero, i.size, i.bytes)) = some (some (.string ⟨#[]⟩), 1, 16) := by kernel_rfl
/-- The lines of turns, up to a place. -/
def lnsB (t : List P2) (k : Nat) : List ByteArray := (List.range k).map fun i => lnB i (ptAt t i)
theorem lnsB_succ (t : List P2) (k : Nat) : lnsB t (k + 1) = lnsB t k ++ [lnB k (ptAt t k)] := by unfold lnsB; rw [List.range_succ, List.map_append]; rfl
theorem lnsB_len (t : List P2) (k : Nat) : (lnsB t k).length = k := by simp [lnsB]
theorem lnsB_at {t : List P2} {n k : Nat} (h : k < n) : (lnsB t n)[k]? = some (lnB k (ptAt t k)) := by simp [lnsB, h]
theorem cdL_take {t : List P2} {k : Nat} (h : k < t.length) : cdL (t.take (k + 1)) = cdL (t.take k) ++ lnL k (ptAt t k) := by
  rw [take_snoc h, cdL_snoc, List.length_take, Nat.min_eq_left (by omega)]
theorem turnsV_ok (l : List P2) : ∀ p ∈ turnsV l, okP p = true := by
  unfold turnsV
  split
  · rename_i h; exact turns_okP h
  · intro p hp; cases hp
theorem cdV_eq (l : List P2) : cdV l = cdB (turnsV l) := by
  unfold cdV turnsV
  split <;> rfl
theorem builder_only {T e : TypeId} {B b c : Nat} {bs : List Value} {W W' : World} (h : Lib.IsBuilderF T e B b bs W) (O : Only c W W') (hc : ∀ cs t fz, W.heap[c]? ≠ some (.cells cs t fz)) : Lib.IsBuilderF T e B b bs W' := by
  have key : ∀ p, Lib.BuilderAtF T e B b p bs W → Lib.BuilderAtF T e B b p bs W' := fun p h => by
    obtain ⟨hB, v, hb, hown, hne⟩ := h
    have hbc : b ≠ c := fun e => hc _ _ _ (by rw [← e]; exact hb)
    refine ⟨hB, v, (O.block b hbc (Array.getElem?_eq_some_iff.1 hb).1).trans hb, ?_, hne⟩
    refine ⟨hown.1, hown.2.imp id ?_⟩
    rintro ⟨g, cap, cur, fz, rfl, hbg, hg, r⟩
    exact ⟨g, cap, cur, fz, rfl, hbg, (O.block g (fun e => hc _ _ _ (by rw [← e]; exact hg)) (Array.getElem?_eq_some_iff.1 hg).1).trans hg, r⟩
  exact h.imp (key _) (key _)
set_option maxRecDepth 100000 in
set_option maxHeartbeats 4000000 in
theorem codeWrite_any (a : Option Addr) (np cp : Nat) (l : List P2) (w : World) (hn : np ≤ 1048576) (hcp : np ≤ cp) (hP : Pts w.heap.size w a np l) (hT : Tab w) :
    Calls Tryd.prog 11 #[.slice a np cp] w fun e w' => e = .returned (.string (cdV l)) ∧ Below w.heap.size w w' := by
  obtain ⟨i0, hi0, hz0, hz1, hz2⟩ := info_parts Tryd.infoS2
  have hC := codeTurns_any a np cp l w hn hcp hP
  have HOK := turnsV_ok l
  have h400 := turnsV_len l
  have HV : Hid (cdV l = cdB (turnsV l)) := cdV_eq l
  generalize turnsV l = T at *
  refine calls_of_wpN Tryd.func11 rfl ?_
  simp only [Tryd.f11, List.size_toArray, List.length_cons, List.length_nil, Nat.reduceAdd, Nat.reduceSub, Array.replicate_succ, Array.replicate_zero, List.push_toArray, List.append_toArray, List.nil_append, List.cons_append]
  refine wpN_seq (wpN_of ?_)
  go_wp2_with fail
  refine wpN_seq (wpN_of ?_)
  go_wp2_with fail
  refine hC.mono ?_
  clear hC hP
  rintro e w1 ⟨v, rfl, hA, J1⟩
  obtain ⟨a1, c1, rfl, hP1⟩ := hA.own
  obtain ⟨m, hm⟩ : ∃ m, T.length = m := ⟨_, rfl⟩
  have HL : Hid (T.length = m) := hm
  rw [hm] at hP1 h400
  rw [hm]
  clear hm hA
  have hT1 := hT.below J1
  have z1 := J1.size
  go_wp2_with fail
  refine wpN_seq (wpN_of ?_)
  go_wp2_with (at_make; refine wpList_make_own _ rfl _ _ 46 rfl w1.heap.size 9 i0 _ 1 Tryd.underlying46 hi0 hz0 hz1 .i64 .i64 _ m rfl rfl rfl (by rw [hz2]; omega) (by simp [maxLen]; omega) (Nat.le_refl _) ?_; intro w2 hown hgr)
  have hB2 : Below w1.heap.size w1 w2 := (Below.refl _ _).grown hgr (Nat.le_refl _) (fun k e => by cases e)
  have z2 := hgr.size
  have zown := (hown.lt _ rfl).2
  clear hgr
  refine wpN_seq (wpN_seq (wpN_of ?_))
  go_wp2_with fail
  refine wpN_of ?_
  go_wp2_with fail
  go_loopw [4, 16] (fun s i wr => ∃ k : Nat, k ≤ m ∧ i = .int .i64 k ∧ s = .slice (some ⟨w1.heap.size, 0, none⟩) k m ∧ wr.ownsRow w1.heap.size 9 1 (.slice (some ⟨w1.heap.size, 0, none⟩) k m) k ((lnsB T k).map Value.string) ∧ Below w1.heap.size w1 wr) (fun _ i _ => m - (intOf i).toNat)
  case atStart => exact ⟨0, Nat.zero_le _, rfl, rfl, hown, hB2⟩
  case round =>
    obtain ⟨k, hk, rfl, rfl, hown, hnx⟩ := hrel
    have zr := hnx.size
    by_cases hlt : k < m
    case pos =>
      rcases hP1.2 with h0 | ⟨b, off, rfl, hbl, hcs⟩
      · omega
      obtain ⟨c0, c1⟩ := hcs k hlt
      have d0 := (hnx.cell (p := ⟨b, off + k * 2, none⟩) hbl).trans c0
      have d1 := (hnx.cell (p := ⟨b, off + k * 2 + 1, none⟩) hbl).trans c1
      have hpk : okP (ptAt T k) = true := HOK _ (by rw [ptAt_lt (by rw [HL.out]; exact hlt)]; exact List.getElem_mem _)
      have hsn : Hid ((lnsB T (k + 1)).map Value.string = (lnsB T k).map Value.string ++ [.string (lnB k (ptAt T k))]) := by
        change _ = _; rw [lnsB_succ, List.map_append]; rfl
      have j0 : (0 : Int) ≤ (k : Int) := Int.natCast_nonneg _
      have j1 : (k : Int) < (m : Int) := by omega
      clear hcs c0 c1
      obtain ⟨V, hV, BV, TV⟩ : ∃ V, V = wr.alloc (.cells #[.int .i64 (ptAt T k).1, .int .i64 (ptAt T k).2] 42) ∧ Below wr.heap.size wr V ∧ V.heap[wr.heap.size]? = some (.cells #[.int .i64 (ptAt T k).1, .int .i64 (ptAt T k).2] 42) := ⟨_, rfl, (by repeat (first | exact bw_refl _ | assumption | apply bw_drewN | apply bw_drew | apply bw_alloc | refine bw_set ?_ (by simp) _)), heap_new _ _⟩
      have hownV : V.ownsRow w1.heap.size 9 1 (.slice (some ⟨w1.heap.size, 0, none⟩) k m) k ((lnsB T k).map Value.string) := by rw [hV]; exact hown.alloc _
      have hnV := bw_trans hnx BV
      go_upto_region 6 with fail
      rw [← hV]
      clear hV d0 d1 hown
      obtain ⟨t0, t1⟩ := blk_2 TV
      go_wp2_with fail
      refine (codeLine_ok k _ hpk _ (hT1.below hnV)).mono ?_
      rintro e w3 ⟨rfl, J⟩
      have hK2 := bw_trans hnV J
      have hown2 : w3.ownsRow w1.heap.size 9 1 (.slice (some ⟨w1.heap.size, 0, none⟩) k m) k ((lnsB T k).map Value.string) := hownV.kept (row := none) ⟨J.os, J.tape, J.output, J.size, fun j hj _ => J.block j hj⟩ (Classical.em _)
      have hz2' := hK2.size
      clear t0 t1
      go_wp2_with (at_builtin; refine wpList_append_fits _ rfl _ _ 46 rfl w1.heap.size 9 i0 1 Tryd.underlying46 hi0 hz1 w1.heap.size k m _ rfl (hown2.alloc _) ⟨w3.heap.size, 0, none⟩ 1 1 [.string (lnB k (ptAt T k))] rfl rfl (World.news_of_block (cs := #[.string (lnB k (ptAt T k))]) (t := 9) (fr := (0, 0)) (heap_alloc_new w3 _)) (by simp [Value.oneCell']) (by omega) ?_; intro w4 hown3 hgr3)
      go_roundw
      case rel => exact ⟨k + 1, by omega, by simp, rfl, by rw [hsn.out]; exact hown3, (hK2.alloc hz2' _).grown hgr3 (by simp; omega) (fun j e => by have e' : w1.heap.size = j := Option.some.inj e; omega)⟩
      case measure => simp [intOf]; omega
    case neg =>
    obtain rfl : k = m := by omega
    go_wp2_with fail
    have Kr := bw_trans J1 hnx
    have hcells : ∀ j x, (lnsB T k)[j]? = some x → wr.cell? ⟨w1.heap.size, j, none⟩ = some (.string x) := fun j x hx => by
      have hj := (List.getElem?_eq_some_iff.1 hx).1
      rw [lnsB_len] at hj
      rw [hown.cellAt j (by omega), List.getElem?_map, hx]; rfl
    have hBB : Below wr.heap.size wr (wr.alloc (.cells #[.pointer none, .slice none 0 0] 50)) := (by repeat (first | exact bw_refl _ | assumption | apply bw_drewN | apply bw_drew | apply bw_alloc | refine bw_set ?_ (by simp) _))
    have hSR : StrRow (wr.alloc (.cells #[.pointer none, .slice none 0 0] 50)) (some ⟨w1.heap.size, 0, none⟩) k (lnsB T k) :=
      StrRow.below (W := wr) ⟨lnsB_len T k, .inr ⟨w1.heap.size, rfl, (hown.lt _ rfl).2, hcells⟩⟩ hBB
    have hnew := heap_new wr (.cells #[.pointer none, .slice none 0 0] 50)
    have hI : Lib.IsBuilderF 50 5 wr.heap.size wr.heap.size (Lib.byteCells (cdL (T.take 0))) (wr.alloc (.cells #[.pointer none, .slice none 0 0] 50)) :=
      .inl ⟨Nat.le_refl _, .slice none 0 0, hnew, World.ownsRowF_nil _ _ _ _, by simp [Value.ownBlock]⟩
    have hSent := sent_ok (some ⟨w1.heap.size, 0, none⟩) k k (lnsB T k) _ hSR (by omega)
    have hsz0 : (wr.alloc (.cells #[.pointer none, .slice none 0 0] 50)).heap.size = wr.heap.size + 1 := by simp
    clear hSR hcells hnew
    refine wpN_seq (wpN_of ?_)
    go_wp2_with fail
    obtain ⟨v1, hv1⟩ : ∃ v1, wr.alloc (.cells #[.pointer none, .slice none 0 0] 50) = v1 := ⟨_, rfl⟩
    rw [hv1] at hI hBB hSent hsz0 ⊢
    clear hv1
    refine wpN_seq (wpN_seq (wpN_of ?_))
    go_wp2_with fail
    refine hSent.mono ?_
    clear hSent
    rintro e w5 ⟨ch, rfl, hch, hcb, J5⟩
    go_wp2_with fail
    refine wpN_block ?_
    have hI5 := hI.below J5
    have hB5 := bw_trans hBB J5
    have hch0 : w5.heap[ch]? = some (.chan k (((lnsB T k).drop 0).map Value.string).toArray true k 0 false) := by rw [List.drop_zero]; exact hch
    clear hch hI
    refine wpN_loop k (fun j a' w' => ∃ (q : Nat) (x8 x30 x31 x32 x33 x34 : Value), q + j = k ∧ a' = { tmps := #[.slice a np cp, undef, .string ⟨#[]⟩, .slice a1 k c1, .slice (some ⟨w1.heap.size, 0, none⟩) k k, u5, u6, .pointer (some ⟨wr.heap.size, 0, none⟩), x8, .slice a np cp, .slice a1 k c1, .slice a1 k c1, .int .i64 k, .slice (some ⟨w1.heap.size, 0, none⟩) 0 k, .slice a1 k c1, .int .i64 k, .int .i64 k, .bool false, u18, u19, u20, u21, u22, u23, u24, u25, u26, u27, .slice (some ⟨w1.heap.size, 0, none⟩) k k, .chan (some ch), x30, x31, x32, x33, x34, undef], defers := [] } ∧ w'.heap[ch]? = some (.chan k (((lnsB T k).drop q).map Value.string).toArray true k q false) ∧ Lib.IsBuilderF 50 5 wr.heap.size wr.heap.size (Lib.byteCells (cdL (T.take q))) w' ∧ Below wr.heap.size wr w') ?_ ?_ ?_
    · exact ⟨0, _, _, _, _, _, _, by omega, rfl, hch0, hI5, hB5⟩
    · rintro j a' w' ⟨q, x8, x30, x31, x32, x33, x34, hq, rfl, hcw, hIw, hBw⟩
      have hqk : q < k := by omega
      have hdr : (lnsB T k).drop q = lnB q (ptAt T q) :: (lnsB T k).drop (q + 1) := by
        obtain ⟨h1, h2⟩ := List.getElem?_eq_some_iff.1 (lnsB_at (t := T) hqk)
        rw [← h2, ← List.drop_eq_getElem_cons h1]
      rw [hdr] at hcw
      clear hdr
      have zB := hBw.size
      have hpq : okP (ptAt T q) = true := HOK _ (by rw [ptAt_lt (by rw [HL.out]; exact hqk)]; exact List.getElem_mem _)
      have hlq : (lnB q (ptAt T q)).size = 9 := lnB_size hpq
      have hln : (cdL (T.take q)).length = 9 * q := by rw [cdL_len (fun p hp => HOK p (List.mem_of_mem_take hp)), List.length_take, HL.out, Nat.min_eq_left (by omega)]
      have htk : Hid (cdL (T.take (q + 1)) = cdL (T.take q) ++ lnL q (ptAt T q)) := cdL_take (by rw [HL.out]; exact hqk)
      obtain ⟨rs, hrs⟩ : ∃ rs, (lnsB T k).drop (q + 1) = rs := ⟨_, rfl⟩
      have HRS : Hid ((lnsB T k).drop (q + 1) = rs) := hrs
      rw [hrs] at hcw
      clear hrs
      refine wpN_seq (wpN_region ?_)
      simp only [List.size_toArray, List.length_cons, List.length_nil, Nat.reduceAdd, List.range, List.range.loop]
      refine wpM_recv (ok := true) (c := ch) (z := .string ⟨#[]⟩) rfl (by rfl) (by simp [go_sem, rcase]) hcw (by simp) ?_
      have hlc := blk_lt hcw
      have hext : ((lnB q (ptAt T q) :: rs).map Value.string).toArray.extract 1 ((lnB q (ptAt T q) :: rs).map Value.string).toArray.size = (rs.map Value.string).toArray := by simp [List.take_of_length_le]
      have hget : ((lnB q (ptAt T q) :: rs).map Value.string).toArray.getD 0 undef = .string (lnB q (ptAt T q)) := by simp
      rw [hext, hget]
      simp only [got, if_true]
      have OC : Only ch w' (w'.setChan ch k (rs.map Value.string).toArray true k (q + 1) false) := ⟨rfl, rfl, rfl, by simp [World.setChan], fun i hi _ => by simp only [World.setChan]; rw [Array.getElem?_setIfInBounds_ne (Ne.symm hi)]⟩
      have hV1 := heap_setChan w' ch k (rs.map Value.string).toArray true k (q + 1) false hlc
      have hV2 := below_setChan hBw (show wr.heap.size ≤ ch by omega) k (rs.map Value.string).toArray true k (q + 1) false
      have hV3 := builder_only hIw OC (by rw [hcw]; intro cs t fz e; cases e)
      generalize w'.setChan ch k (rs.map Value.string).toArray true k (q + 1) false = V at hV1 hV2 hV3 ⊢
      refine wpM_value (w' := V) (v := .bool true) rfl (by rfl) (by simp [go_sem, Act.put]) ?_
      refine wpM_done ?_
      simp only [Exit.then]
      have hW := shelf_Builder_WriteString wr.heap.size wr.heap.size (Lib.byteCells (cdL (T.take q))) (lnB q (ptAt T q)) V hV3 (by rw [cells_len']; omega) hV2.size
      refine wpN_of ?_
      go_wp2_with fail
      refine hW.mono ?_
      clear hW
      rintro e w9 ⟨rfl, hA9, J9, hO9⟩
      have hc9 : w9.heap[ch]? = some (.chan k (rs.map Value.string).toArray true k (q + 1) false) := hO9 ch _ hV1 (by simp; omega) (by rintro c fz e; cases e)
      have hI9 : Lib.IsBuilderF 50 5 wr.heap.size wr.heap.size (Lib.byteCells (cdL (T.take (q + 1)))) w9 := by rw [htk.out, cells_app']; exact .inr hA9
      go_wp2_with fail
      exact ⟨q + 1, .string (lnB q (ptAt T q)), .tuple #[.string (lnB q (ptAt T q)), .bool true], .bool true, .string (lnB q (ptAt T q)), .string (lnB q (ptAt T q)), _, by omega, rfl, by rw [HRS.out]; exact hc9, hI9, hV2.trans J9⟩
    · rintro a' w' ⟨q, x8, x30, x31, x32, x33, x34, hq, rfl, hcw, hIw, hBw⟩
      obtain rfl : q = k := by omega
      have hdr : (lnsB T q).drop q = [] := List.drop_eq_nil_of_le (by rw [lnsB_len]; exact Nat.le_refl _)
      rw [hdr] at hcw
      have hTT : T.take q = T := List.take_of_length_le (by rw [HL.out]; exact Nat.le_refl _)
      rw [hTT] at hIw
      clear hdr hTT
      have zB := hBw.size
      have hS := shelf_Builder_String_any_k wr.heap.size wr.heap.size (cdL T) w' hIw zB
      have e2 : Hid (cdV l = ⟨(cdL T).toArray⟩) := HV.out
      refine wpN_seq (wpN_region ?_)
      simp only [List.size_toArray, List.length_cons, List.length_nil, Nat.reduceAdd, List.range, List.range.loop]
      refine wpM_shut (ok := true) (c := ch) (z := .string ⟨#[]⟩) rfl (by rfl) (by simp [go_sem, rcase]) hcw ?_
      simp only [got, if_true]
      refine wpM_value (w' := w') (v := .bool false) rfl (by rfl) (by simp [go_sem, Act.put]) ?_
      refine wpM_done ?_
      simp only [Exit.then]
      refine wpN_of ?_
      go_wp2_with fail
      refine wpN_seq (wpN_of ?_)
      go_wp2_with fail
      refine hS.mono ?_
      rintro e w9 ⟨rfl, -, J9, -⟩
      go_wp2_with fail
      refine wpN_of ?_
      go_wp2_with fail
      refine bodyPost_ret (v := .string ⟨(cdL T).toArray⟩) (by simp [results, go_sem]) rfl ?_
      exact ⟨by rw [e2.out], bw_trans Kr (hBw.trans J9)⟩
end Go.Proofs.YtfdnadiliedikaaDoor
