/-
  OUR OWN TEXT. The law FnCodeStrict, for every input: the call returns true, and each argument reads as it did. Texts of ours, joined, so that the claim keeps to its number of files. Conditions: none but the row's own.
-/
import Derived.Test.YtfdnadiliedikaaDoorCodeTxM
import Derived.Test.YtfdnadiliedikaaDoorItoa
import Derived.Test.YtfdnadiliedikaaDoorBoxes
import Derived.Test.YtfdnadiliedikaaDoorLoneW
import Derived.Conc.SmallLaws
import Derived.Conc.EventLaws
import Derived.Test.YtfdnadiliedikaaDoorCodeU
import Derived.Test.YtfdnadiliedikaaDoorLuL
import Derived.OwnWalk
import Derived.Shelf.Strings.MapGrows
import Derived.Test.YtfdnadiliedikaaDoorDrawCode
import Derived.Test.YtfdnadiliedikaaDoorLuSame
import Derived.Test.YtfdnadiliedikaaDoorCodeS
import Derived.Test.YtfdnadiliedikaaDoorSCodeU
import Derived.Test.YtfdnadiliedikaaDoorDrawTurns
import Derived.Test.YtfdnadiliedikaaDoorLuSameD
import Derived.Test.YtfdnadiliedikaaDoorBw
import Derived.Lib.Split
import Derived.Test.YtfdnadiliedikaaDoorLoopM
import Derived.Lib.Join
import Derived.Test.YtfdnadiliedikaaDoorEdgeS
import Derived.Test.YtfdnadiliedikaaDoorToPts
import Derived.Deep.AppendLies
import Derived.Deep.RegionHeld3
import Derived.Test.YtfdnadiliedikaaDoorSPt
import Derived.Test.YtfdnadiliedikaaDoorPt
import Derived.Test.YtfdnadiliedikaaDoorSCodeS
import Derived.Test.YtfdnadiliedikaaDoorShelfB
import Derived.Test.YtfdnadiliedikaaDoorAnyZ
import Derived.Shelf.SlIter.Collect
import Derived.RangeFuncNested
import Derived.RangeFuncBox
import Derived.RangeFuncBound
import Derived.RangeFuncCalls
import Derived.RangeFuncLeaves
import Derived.Shelf.Abstract
import Derived.Shelf.RegionOpen
import Derived.WalkKit
import Derived.OwnWalkIn
import Derived.TacticsInMore
import Derived.LoopNIn
import Derived.LoopIn
import Derived.Test.YtfdnadiliedikaaDoorCodeM3
import Derived.Test.YtfdnadiliedikaaDoorTurn
import Derived.Test.YtfdnadiliedikaaDoorCards
import Derived.Test.YtfdnadiliedikaaDoorTie
import Derived.ProofKit
import Derived.OpenShut
import Derived.ShutString
import Derived.ChangeOld
import Derived.Below
import Derived.LaidMore
import Derived.MakeChecks
import Derived.Stop.Joined
import Derived.Stop.LaidErr
import Derived.Lib.LaidTab
import Derived.Shelf.Vars
import Derived.HandedShaped
import Derived.Lay
import Derived.Lib.SmallJoins
namespace Go.Proofs.YtfdnadiliedikaaDoor
open Go.RowKit Go.Sort Go.Conc

theorem word_any (k : Nat) (w : World) : Calls Tryd.prog 55 #[.int .i64 k] w fun e w' => e = .returned (.string ⟨(cwL k).toArray⟩) ∧ Below w.heap.size w w' := by
  by_cases h0 : k = 0
  · subst h0
    go_enter Tryd.func55, Tryd.ntmps55
    go_wp2_with fail
    go_ret
    exact ⟨rfl, bw_refl _⟩
  · have e1 : Hid (cwL k = [71, 49]) := by change _ = _; unfold cwL; rw [if_neg h0]
    have h0' : ((k : Int) == 0) = false := by simp; omega
    go_enter Tryd.func55, Tryd.ntmps55
    go_wp2_with fail
    go_ret
    exact ⟨by rw [e1.out]; rfl, bw_refl _⟩
theorem lnB_eq (k : Nat) (p : P2) : ByteArray.mk (cwL k).toArray ++ ByteArray.mk #[32, 88] ++ ByteArray.mk (Lib.decDigits p.1.toNat).toArray ++ ByteArray.mk #[32, 89] ++ ByteArray.mk (Lib.decDigits p.2.toNat).toArray ++ ByteArray.mk #[10] = lnB k p := by
  unfold lnB lnL
  apply ByteArray.ext
  simp
set_option maxRecDepth 100000 in
set_option maxHeartbeats 1000000 in
theorem codeLine_ok (k : Nat) (p : P2) (hp : okP p = true) (w : World) (hT : Tab w) :
    Calls Tryd.prog 30 #[.int .i64 k, .agg #[.int .i64 p.1, .int .i64 p.2]] w fun e w' => e = .returned (.string (lnB k p)) ∧ Below w.heap.size w w' := by
  obtain ⟨W, hW, BW, T⟩ : ∃ W, W = w.alloc (.cells #[.int .i64 p.1, .int .i64 p.2] 42) ∧ Below w.heap.size w W ∧ W.heap[w.heap.size]? = some (.cells #[.int .i64 p.1, .int .i64 p.2] 42) := ⟨_, rfl, (by repeat (first | exact bw_refl _ | assumption | apply bw_drewN | apply bw_drew | apply bw_alloc | refine bw_set ?_ (by simp) _)), heap_new _ _⟩
  obtain ⟨⟨a, b⟩, c, d⟩ := (okP_iff p).1 hp
  have e1 : Hid (ByteArray.mk (cwL k).toArray ++ ByteArray.mk #[32, 88] ++ ByteArray.mk (Lib.decDigits p.1.toNat).toArray ++ ByteArray.mk #[32, 89] ++ ByteArray.mk (Lib.decDigits p.2.toNat).toArray ++ ByteArray.mk #[10] = lnB k p) := lnB_eq k p
  have l0 : (ByteArray.mk (cwL k).toArray).size = 2 := by have := cwL_len k; unfold ByteArray.size; simpa using this
  have l1 := dec_len p.1 (by omega) (by omega)
  have l2 := dec_len p.2 (by omega) (by omega)
  have hTW := hT.below BW
  have C0 : Hid (∀ d' os, Calls Tryd.prog 55 #[.int .i64 k] (grow (redrawn W d') os) fun e w'' => e = .returned (.string ⟨(cwL k).toArray⟩) ∧ Below (grow (redrawn W d') os).heap.size (grow (redrawn W d') os) w'') := fun d' os => word_any k _
  have C1 : Hid (∀ d' os, Calls Tryd.prog 56 #[.int .i64 p.1] (grow (redrawn W d') os) fun e w'' => e = .returned (.string ⟨(Lib.decDigits p.1.toNat).toArray⟩) ∧ Below (grow (redrawn W d') os).heap.size (grow (redrawn W d') os) w'') := fun d' os => itoa_any p.1 _ (by omega) (by omega) (hTW.below (below_regrown W d' os))
  have C2 : Hid (∀ d' os, Calls Tryd.prog 56 #[.int .i64 p.2] (grow (redrawn W d') os) fun e w'' => e = .returned (.string ⟨(Lib.decDigits p.2.toNat).toArray⟩) ∧ Below (grow (redrawn W d') os).heap.size (grow (redrawn W d') os) w'') := fun d' os => itoa_any p.2 _ (by omega) (by omega) (hTW.below (below_regrown W d' os))
  obtain ⟨t0, t1⟩ := reg_2 T
  obtain ⟨px, py⟩ := p
  dsimp only at *
  clear hp a b c d
  generalize cwL k = cw at *
  go_enter Tryd.func30, Tryd.ntmps30
  go_upto_region 1 with fail
  rw [← hW]
  clear hW
  refine wp_region_quiet_below (by kernel_rfl) (by kernel_rfl) ?_
  repeat (first | go_big_quiet_step (first | (go_at_call 55; with_reducible exact Calls.regrown_of (C0.out _ _)) | (go_at_call 56; with_reducible exact Calls.regrown_of (C1.out _ _)) | (go_at_call 56; with_reducible exact Calls.regrown_of (C2.out _ _))))
  refine wpQuiet_nil ?_
  intro _ hw'
  obtain ⟨⟨dq, osq⟩, hw''⟩ := hw'
  subst hw''
  have J := below_regrown W dq osq
  generalize grow (redrawn W dq) osq = v at J ⊢
  go_wp2_with fail
  go_ret
  exact ⟨ret_str e1.out, bw_trans BW J⟩
end Go.Proofs.YtfdnadiliedikaaDoor
namespace Go.Proofs.YtfdnadiliedikaaDoor
open Go.RowKit Go.Sort Go.Conc

/-- A slice of strings. -/
def StrRow (W : World) (a : Option Addr) (n : Nat) (xs : List ByteArray) : Prop :=
  xs.length = n ∧ (n = 0 ∨ ∃ g, a = some ⟨g, 0, none⟩ ∧ g < W.heap.size ∧ ∀ j x, xs[j]? = some x → W.cell? ⟨g, j, none⟩ = some (.string x))
theorem StrRow.below {W W' : World} {a : Option Addr} {n : Nat} {xs : List ByteArray} (h : StrRow W a n xs) (J : Below W.heap.size W W') : StrRow W' a n xs := by
  obtain ⟨h1, h2⟩ := h
  refine ⟨h1, h2.imp id ?_⟩
  rintro ⟨g, e, hg, hc⟩
  exact ⟨g, e, Nat.lt_of_lt_of_le hg J.size, fun j x hx => (J.cell (p := ⟨g, j, none⟩) hg).trans (hc j x hx)⟩
theorem mkch (n : Nat) (hn : n ≤ 1000000) (w : World) : (Instr.makeChan 79 (.int .i64 (n : Int))).run Tryd.prog w = .ok (.chan (some w.heap.size)) (w.alloc (.chan n #[] false 0 0 false)) := by
  have h : (Tryd.prog.info? 9).map (·.bytes) = some 16 := by kernel_rfl
  obtain ⟨i, hi, hb⟩ := Option.map_eq_some_iff.1 h
  simpa using run_makeChan (P := Tryd.prog) (w := w) Tryd.underlying79 hi .i64 n (by omega) (by rw [hb]; omega)
set_option maxRecDepth 100000 in
set_option maxHeartbeats 2000000 in
theorem sent_ok (a : Option Addr) (n c : Nat) (xs : List ByteArray) (w : World) (hS : StrRow w a n xs) (hn : n ≤ 100000) :
    Calls Tryd.prog 31 #[.slice a n c] w fun e w' => ∃ ch, e = .returned (.chan (some ch)) ∧ w'.heap[ch]? = some (.chan n (xs.map Value.string).toArray true n 0 false) ∧ w.heap.size ≤ ch ∧ Below w.heap.size w w' := by
  have hmk := mkch n (by omega) w
  refine calls_of_wpN Tryd.func31 rfl ?_
  simp only [Tryd.f31, List.size_toArray, List.length_cons, List.length_nil, Nat.reduceAdd, Nat.reduceSub, Array.replicate_succ, Array.replicate_zero, List.push_toArray, List.append_toArray, List.nil_append, List.cons_append]
  refine wpN_seq (wpN_of ?_)
  go_wp2_with fail
  refine wpN_seq (wpN_of ?_)
  go_wp2_with fail
  refine wpN_seq (wpN_seq (wpN_of ?_))
  go_wp2_with fail
  refine wpN_block ?_
  obtain ⟨hSl, hSc⟩ := hS
  have hin : ∀ k, k < n → ∃ x, xs[k]? = some x ∧ ∃ g, a = some ⟨g, 0, none⟩ ∧ g < w.heap.size ∧ w.cell? ⟨g, k, none⟩ = some (.string x) := fun k hk => by
    rcases hSc with h0 | ⟨g, e, hg, hc⟩
    · omega
    · exact ⟨xs[k]'(by omega), List.getElem?_eq_getElem _, g, e, hg, hc k _ (List.getElem?_eq_getElem _)⟩
  refine wpN_loop n (fun j a' w' => ∃ (k : Nat) (x5 x12 x13 x14 x15 x16 x17 : Value), k + j = n ∧ a' = { tmps := #[.slice a n c, undef, .chan none, .chan (some w.heap.size), undef, x5, .slice a n c, .int .i64 n, .chan (some w.heap.size), .slice a n c, .int .i64 n, .int .i64 k, x12, x13, x14, x15, x16, x17, undef, undef], defers := [] } ∧ w'.heap[w.heap.size]? = some (.chan n ((xs.take k).map Value.string).toArray false k 0 false) ∧ Below w.heap.size w w') ?_ ?_ ?_
  · exact ⟨0, _, _, _, _, _, _, _, by omega, rfl, by simpa using heap_new w _, (by repeat (first | exact bw_refl _ | assumption | apply bw_drewN | apply bw_drew | apply bw_alloc | refine bw_set ?_ (by simp) _))⟩
  · rintro j a' w' ⟨k, x5, x12, x13, x14, x15, x16, x17, hk, rfl, hch, hB⟩
    obtain ⟨x, hx, g, rfl, hg, hcx⟩ := hin k (by omega)
    have c0 : w'.cell? ⟨g, k, none⟩ = some (.string x) := (hB.cell (p := ⟨g, k, none⟩) hg).trans hcx
    have hlt : (k : Int) < (n : Int) := by omega
    have i0 : (0 : Int) ≤ (k : Int) := Int.natCast_nonneg _
    refine wpN_seq (wpN_of ?_)
    go_wp2_with fail
    refine wpN_seq (wpN_of ?_)
    go_wp2_with fail
    refine wpN_seq (wpN_block (wpN_seq (wpN_of ?_)))
    go_wp2_with fail
    refine wpN_region ?_
    simp only [List.size_toArray, List.length_cons, List.length_nil, Nat.reduceAdd, List.range, List.range.loop]
    refine wpM_value (w' := w') (v := .chan (some w.heap.size)) rfl (by rfl) (by simp [go_sem]) ?_
    refine wpM_value (w' := w') (v := .string x) rfl (by rfl) (by simp [go_sem, Act.put]) ?_
    refine wpM_send (c := w.heap.size) (v := .string x) (z' := .tuple #[]) rfl (by rfl) (by simp [execOp, scase, Act.eval, Act.put]) hch (by simp; omega) ?_
    refine wpM_done ?_
    simp only [Exit.inBlock, Exit.then]
    refine wpN_of ?_
    have hsn : Hid ((((xs.take k).map Value.string).toArray).push (.string x) = ((xs.take (k + 1)).map Value.string).toArray) := by
      change _ = _
      rw [List.take_add_one, hx]
      simp
    have hlc := blk_lt hch
    rw [hsn.out]
    have hV1 := heap_setChan w' w.heap.size n ((xs.take (k + 1)).map Value.string).toArray false (k + 1) 0 false hlc
    have hV2 := below_setChan hB (Nat.le_refl _) n ((xs.take (k + 1)).map Value.string).toArray false (k + 1) 0 false
    generalize w'.setChan w.heap.size n ((xs.take (k + 1)).map Value.string).toArray false (k + 1) 0 false = V at hV1 hV2 ⊢
    go_wp2_with fail
    exact ⟨k + 1, .string x, .bool true, .pointer (some ⟨g, k, none⟩), .string x, .chan (some w.heap.size), .string x, .int .i64 ((k : Int) + 1), by omega, by simp, hV1, hV2⟩
  · rintro a' w' ⟨k, x5, x12, x13, x14, x15, x16, x17, hk, rfl, hch, hB⟩
    obtain rfl : k = n := by omega
    have hall : Hid (xs.take k = xs) := List.take_of_length_le (by rw [hSl]; exact Nat.le_refl _)
    rw [hall.out] at hch
    have hcl := fun ats ty => run_close_open (P := Tryd.prog) (w := w') ats ty hch
    have hlc := blk_lt hch
    refine wpN_seq (wpN_of ?_)
    go_wp2_with fail
    refine wpN_seq (wpN_of ?_)
    go_wp2_with fail
    refine wpN_seq (wpN_of ?_)
    go_wp2_with fail
    refine wpN_of ?_
    go_wp2_with fail
    refine bodyPost_ret (v := .chan (some w.heap.size)) (by simp [results, go_sem]) rfl ?_
    exact ⟨w.heap.size, rfl, heap_setChan _ _ _ _ _ _ _ _ hlc, Nat.le_refl _, below_setChan hB (Nat.le_refl _) _ _ _ _ _ _⟩
end Go.Proofs.YtfdnadiliedikaaDoor
namespace Go.Proofs.YtfdnadiliedikaaDoor
open Go.RowKit Go.Sort Go.Conc

theorem cells_app' (a b : List UInt8) : Lib.byteCells (a ++ b) = Lib.byteCells a ++ Lib.byteCells b := by unfold Lib.byteCells; rw [List.map_append]
theorem cells_len' (a : List UInt8) : (Lib.byteCells a).length = a.length := by unfold Lib.byteCells; rw [List.length_map]
theorem Tryd.infoS2 : (Tryd.prog.info? 9).map (fun i => (i.zero, i.size, i.bytes)) = some (some (.string ⟨#[]⟩), 1, 16) := by kernel_rfl
/-- The lines of turns, up to a place. -/
def lnsB (t : List P2) (k : Nat) : List ByteArray := (List.range k).map fun i => lnB i (ptAt t i)
theorem lnsB_succ (t : List P2) (k : Nat) : lnsB t (k + 1) = lnsB t k ++ [lnB k (ptAt t k)] := by unfold lnsB; rw [List.range_succ, List.map_append]; rfl
theorem lnsB_len (t : List P2) (k : Nat) : (lnsB t k).length = k := by simp [lnsB]
theorem lnsB_at {t : List P2} {n k : Nat} (h : k < n) : (lnsB t n)[k]? = some (lnB k (ptAt t k)) := by simp [lnsB, h]
theorem cdL_take {t : List P2} {k : Nat} (h : k < t.length) : cdL (t.take (k + 1)) = cdL (t.take k) ++ lnL k (ptAt t k) := by
  rw [take_snoc h, cdL_snoc, List.length_take, Nat.min_eq_left (by omega)]
theorem turnsV_ok (l : List P2) : ∀ p ∈ turnsV l, okP p = true := by
  unfold turnsV
  split
  · rename_i h; exact turns_okP h
  · intro p hp; cases hp
theorem cdV_eq (l : List P2) : cdV l = cdB (turnsV l) := by
  unfold cdV turnsV
  split <;> rfl
theorem builder_only {T e : TypeId} {B b c : Nat} {bs : List Value} {W W' : World} (h : Lib.IsBuilderF T e B b bs W) (O : Only c W W') (hc : ∀ cs t fz, W.heap[c]? ≠ some (.cells cs t fz)) : Lib.IsBuilderF T e B b bs W' := by
  have key : ∀ p, Lib.BuilderAtF T e B b p bs W → Lib.BuilderAtF T e B b p bs W' := fun p h => by
    obtain ⟨hB, v, hb, hown, hne⟩ := h
    have hbc : b ≠ c := fun e => hc _ _ _ (by rw [← e]; exact hb)
    refine ⟨hB, v, (O.block b hbc (Array.getElem?_eq_some_iff.1 hb).1).trans hb, ?_, hne⟩
    refine ⟨hown.1, hown.2.imp id ?_⟩
    rintro ⟨g, cap, cur, fz, rfl, hbg, hg, r⟩
    exact ⟨g, cap, cur, fz, rfl, hbg, (O.block g (fun e => hc _ _ _ (by rw [← e]; exact hg)) (Array.getElem?_eq_some_iff.1 hg).1).trans hg, r⟩
  exact h.imp (key _) (key _)
set_option maxRecDepth 100000 in
set_option maxHeartbeats 4000000 in
theorem codeWrite_any (a : Option Addr) (np cp : Nat) (l : List P2) (w : World) (hn : np ≤ 1048576) (hcp : np ≤ cp) (hP : Pts w.heap.size w a np l) (hT : Tab w) :
    Calls Tryd.prog 11 #[.slice a np cp] w fun e w' => e = .returned (.string (cdV l)) ∧ Below w.heap.size w w' := by
  obtain ⟨i0, hi0, hz0, hz1, hz2⟩ := info_parts Tryd.infoS2
  have hC := codeTurns_any a np cp l w hn hcp hP
  have HOK := turnsV_ok l
  have h400 := turnsV_len l
  have HV : Hid (cdV l = cdB (turnsV l)) := cdV_eq l
  generalize turnsV l = T at *
  refine calls_of_wpN Tryd.func11 rfl ?_
  simp only [Tryd.f11, List.size_toArray, List.length_cons, List.length_nil, Nat.reduceAdd, Nat.reduceSub, Array.replicate_succ, Array.replicate_zero, List.push_toArray, List.append_toArray, List.nil_append, List.cons_append]
  refine wpN_seq (wpN_of ?_)
  go_wp2_with fail
  refine wpN_seq (wpN_of ?_)
  go_wp2_with fail
  refine hC.mono ?_
  clear hC hP
  rintro e w1 ⟨v, rfl, hA, J1⟩
  obtain ⟨a1, c1, rfl, hP1⟩ := hA.own
  obtain ⟨m, hm⟩ : ∃ m, T.length = m := ⟨_, rfl⟩
  have HL : Hid (T.length = m) := hm
  rw [hm] at hP1 h400
  rw [hm]
  clear hm hA
  have hT1 := hT.below J1
  have z1 := J1.size
  go_wp2_with fail
  refine wpN_seq (wpN_of ?_)
  go_wp2_with (at_make; refine wpList_make_own _ rfl _ _ 46 rfl w1.heap.size 9 i0 _ 1 Tryd.underlying46 hi0 hz0 hz1 .i64 .i64 _ m rfl rfl rfl (by rw [hz2]; omega) (by simp [maxLen]; omega) (Nat.le_refl _) ?_; intro w2 hown hgr)
  have hB2 : Below w1.heap.size w1 w2 := (Below.refl _ _).grown hgr (Nat.le_refl _) (fun k e => by cases e)
  have z2 := hgr.size
  have zown := (hown.lt _ rfl).2
  clear hgr
  refine wpN_seq (wpN_seq (wpN_of ?_))
  go_wp2_with fail
  refine wpN_of ?_
  go_wp2_with fail
  go_loopw [4, 16] (fun s i wr => ∃ k : Nat, k ≤ m ∧ i = .int .i64 k ∧ s = .slice (some ⟨w1.heap.size, 0, none⟩) k m ∧ wr.ownsRow w1.heap.size 9 1 (.slice (some ⟨w1.heap.size, 0, none⟩) k m) k ((lnsB T k).map Value.string) ∧ Below w1.heap.size w1 wr) (fun _ i _ => m - (intOf i).toNat)
  case atStart => exact ⟨0, Nat.zero_le _, rfl, rfl, hown, hB2⟩
  case round =>
    obtain ⟨k, hk, rfl, rfl, hown, hnx⟩ := hrel
    have zr := hnx.size
    by_cases hlt : k < m
    case pos =>
      rcases hP1.2 with h0 | ⟨b, off, rfl, hbl, hcs⟩
      · omega
      obtain ⟨c0, c1⟩ := hcs k hlt
      have d0 := (hnx.cell (p := ⟨b, off + k * 2, none⟩) hbl).trans c0
      have d1 := (hnx.cell (p := ⟨b, off + k * 2 + 1, none⟩) hbl).trans c1
      have hpk : okP (ptAt T k) = true := HOK _ (by rw [ptAt_lt (by rw [HL.out]; exact hlt)]; exact List.getElem_mem _)
      have hsn : Hid ((lnsB T (k + 1)).map Value.string = (lnsB T k).map Value.string ++ [.string (lnB k (ptAt T k))]) := by
        change _ = _; rw [lnsB_succ, List.map_append]; rfl
      have j0 : (0 : Int) ≤ (k : Int) := Int.natCast_nonneg _
      have j1 : (k : Int) < (m : Int) := by omega
      clear hcs c0 c1
      obtain ⟨V, hV, BV, TV⟩ : ∃ V, V = wr.alloc (.cells #[.int .i64 (ptAt T k).1, .int .i64 (ptAt T k).2] 42) ∧ Below wr.heap.size wr V ∧ V.heap[wr.heap.size]? = some (.cells #[.int .i64 (ptAt T k).1, .int .i64 (ptAt T k).2] 42) := ⟨_, rfl, (by repeat (first | exact bw_refl _ | assumption | apply bw_drewN | apply bw_drew | apply bw_alloc | refine bw_set ?_ (by simp) _)), heap_new _ _⟩
      have hownV : V.ownsRow w1.heap.size 9 1 (.slice (some ⟨w1.heap.size, 0, none⟩) k m) k ((lnsB T k).map Value.string) := by rw [hV]; exact hown.alloc _
      have hnV := bw_trans hnx BV
      go_upto_region 6 with fail
      rw [← hV]
      clear hV d0 d1 hown
      obtain ⟨t0, t1⟩ := blk_2 TV
      go_wp2_with fail
      refine (codeLine_ok k _ hpk _ (hT1.below hnV)).mono ?_
      rintro e w3 ⟨rfl, J⟩
      have hK2 := bw_trans hnV J
      have hown2 : w3.ownsRow w1.heap.size 9 1 (.slice (some ⟨w1.heap.size, 0, none⟩) k m) k ((lnsB T k).map Value.string) := hownV.kept (row := none) ⟨J.os, J.tape, J.output, J.size, fun j hj _ => J.block j hj⟩ (Classical.em _)
      have hz2' := hK2.size
      clear t0 t1
      go_wp2_with (at_builtin; refine wpList_append_fits _ rfl _ _ 46 rfl w1.heap.size 9 i0 1 Tryd.underlying46 hi0 hz1 w1.heap.size k m _ rfl (hown2.alloc _) ⟨w3.heap.size, 0, none⟩ 1 1 [.string (lnB k (ptAt T k))] rfl rfl (World.news_of_block (cs := #[.string (lnB k (ptAt T k))]) (t := 9) (fr := (0, 0)) (heap_alloc_new w3 _)) (by simp [Value.oneCell']) (by omega) ?_; intro w4 hown3 hgr3)
      go_roundw
      case rel => exact ⟨k + 1, by omega, by simp, rfl, by rw [hsn.out]; exact hown3, (hK2.alloc hz2' _).grown hgr3 (by simp; omega) (fun j e => by have e' : w1.heap.size = j := Option.some.inj e; omega)⟩
      case measure => simp [intOf]; omega
    case neg =>
    obtain rfl : k = m := by omega
    go_wp2_with fail
    have Kr := bw_trans J1 hnx
    have hcells : ∀ j x, (lnsB T k)[j]? = some x → wr.cell? ⟨w1.heap.size, j, none⟩ = some (.string x) := fun j x hx => by
      have hj := (List.getElem?_eq_some_iff.1 hx).1
      rw [lnsB_len] at hj
      rw [hown.cellAt j (by omega), List.getElem?_map, hx]; rfl
    have hBB : Below wr.heap.size wr (wr.alloc (.cells #[.pointer none, .slice none 0 0] 50)) := (by repeat (first | exact bw_refl _ | assumption | apply bw_drewN | apply bw_drew | apply bw_alloc | refine bw_set ?_ (by simp) _))
    have hSR : StrRow (wr.alloc (.cells #[.pointer none, .slice none 0 0] 50)) (some ⟨w1.heap.size, 0, none⟩) k (lnsB T k) :=
      StrRow.below (W := wr) ⟨lnsB_len T k, .inr ⟨w1.heap.size, rfl, (hown.lt _ rfl).2, hcells⟩⟩ hBB
    have hnew := heap_new wr (.cells #[.pointer none, .slice none 0 0] 50)
    have hI : Lib.IsBuilderF 50 5 wr.heap.size wr.heap.size (Lib.byteCells (cdL (T.take 0))) (wr.alloc (.cells #[.pointer none, .slice none 0 0] 50)) :=
      .inl ⟨Nat.le_refl _, .slice none 0 0, hnew, World.ownsRowF_nil _ _ _ _, by simp [Value.ownBlock]⟩
    have hSent := sent_ok (some ⟨w1.heap.size, 0, none⟩) k k (lnsB T k) _ hSR (by omega)
    have hsz0 : (wr.alloc (.cells #[.pointer none, .slice none 0 0] 50)).heap.size = wr.heap.size + 1 := by simp
    clear hSR hcells hnew
    refine wpN_seq (wpN_of ?_)
    go_wp2_with fail
    obtain ⟨v1, hv1⟩ : ∃ v1, wr.alloc (.cells #[.pointer none, .slice none 0 0] 50) = v1 := ⟨_, rfl⟩
    rw [hv1] at hI hBB hSent hsz0 ⊢
    clear hv1
    refine wpN_seq (wpN_seq (wpN_of ?_))
    go_wp2_with fail
    refine hSent.mono ?_
    clear hSent
    rintro e w5 ⟨ch, rfl, hch, hcb, J5⟩
    go_wp2_with fail
    refine wpN_block ?_
    have hI5 := hI.below J5
    have hB5 := bw_trans hBB J5
    have hch0 : w5.heap[ch]? = some (.chan k (((lnsB T k).drop 0).map Value.string).toArray true k 0 false) := by rw [List.drop_zero]; exact hch
    clear hch hI
    refine wpN_loop k (fun j a' w' => ∃ (q : Nat) (x8 x30 x31 x32 x33 x34 : Value), q + j = k ∧ a' = { tmps := #[.slice a np cp, undef, .string ⟨#[]⟩, .slice a1 k c1, .slice (some ⟨w1.heap.size, 0, none⟩) k k, u5, u6, .pointer (some ⟨wr.heap.size, 0, none⟩), x8, .slice a np cp, .slice a1 k c1, .slice a1 k c1, .int .i64 k, .slice (some ⟨w1.heap.size, 0, none⟩) 0 k, .slice a1 k c1, .int .i64 k, .int .i64 k, .bool false, u18, u19, u20, u21, u22, u23, u24, u25, u26, u27, .slice (some ⟨w1.heap.size, 0, none⟩) k k, .chan (some ch), x30, x31, x32, x33, x34, undef], defers := [] } ∧ w'.heap[ch]? = some (.chan k (((lnsB T k).drop q).map Value.string).toArray true k q false) ∧ Lib.IsBuilderF 50 5 wr.heap.size wr.heap.size (Lib.byteCells (cdL (T.take q))) w' ∧ Below wr.heap.size wr w') ?_ ?_ ?_
    · exact ⟨0, _, _, _, _, _, _, by omega, rfl, hch0, hI5, hB5⟩
    · rintro j a' w' ⟨q, x8, x30, x31, x32, x33, x34, hq, rfl, hcw, hIw, hBw⟩
      have hqk : q < k := by omega
      have hdr : (lnsB T k).drop q = lnB q (ptAt T q) :: (lnsB T k).drop (q + 1) := by
        obtain ⟨h1, h2⟩ := List.getElem?_eq_some_iff.1 (lnsB_at (t := T) hqk)
        rw [← h2, ← List.drop_eq_getElem_cons h1]
      rw [hdr] at hcw
      clear hdr
      have zB := hBw.size
      have hpq : okP (ptAt T q) = true := HOK _ (by rw [ptAt_lt (by rw [HL.out]; exact hqk)]; exact List.getElem_mem _)
      have hlq : (lnB q (ptAt T q)).size = 9 := lnB_size hpq
      have hln : (cdL (T.take q)).length = 9 * q := by rw [cdL_len (fun p hp => HOK p (List.mem_of_mem_take hp)), List.length_take, HL.out, Nat.min_eq_left (by omega)]
      have htk : Hid (cdL (T.take (q + 1)) = cdL (T.take q) ++ lnL q (ptAt T q)) := cdL_take (by rw [HL.out]; exact hqk)
      obtain ⟨rs, hrs⟩ : ∃ rs, (lnsB T k).drop (q + 1) = rs := ⟨_, rfl⟩
      have HRS : Hid ((lnsB T k).drop (q + 1) = rs) := hrs
      rw [hrs] at hcw
      clear hrs
      refine wpN_seq (wpN_region ?_)
      simp only [List.size_toArray, List.length_cons, List.length_nil, Nat.reduceAdd, List.range, List.range.loop]
      refine wpM_recv (ok := true) (c := ch) (z := .string ⟨#[]⟩) rfl (by rfl) (by simp [go_sem, rcase]) hcw (by simp) ?_
      have hlc := blk_lt hcw
      have hext : ((lnB q (ptAt T q) :: rs).map Value.string).toArray.extract 1 ((lnB q (ptAt T q) :: rs).map Value.string).toArray.size = (rs.map Value.string).toArray := by simp [List.take_of_length_le]
      have hget : ((lnB q (ptAt T q) :: rs).map Value.string).toArray.getD 0 undef = .string (lnB q (ptAt T q)) := by simp
      rw [hext, hget]
      simp only [got, if_true]
      have OC : Only ch w' (w'.setChan ch k (rs.map Value.string).toArray true k (q + 1) false) := ⟨rfl, rfl, rfl, by simp [World.setChan], fun i hi _ => by simp only [World.setChan]; rw [Array.getElem?_setIfInBounds_ne (Ne.symm hi)]⟩
      have hV1 := heap_setChan w' ch k (rs.map Value.string).toArray true k (q + 1) false hlc
      have hV2 := below_setChan hBw (show wr.heap.size ≤ ch by omega) k (rs.map Value.string).toArray true k (q + 1) false
      have hV3 := builder_only hIw OC (by rw [hcw]; intro cs t fz e; cases e)
      generalize w'.setChan ch k (rs.map Value.string).toArray true k (q + 1) false = V at hV1 hV2 hV3 ⊢
      refine wpM_value (w' := V) (v := .bool true) rfl (by rfl) (by simp [go_sem, Act.put]) ?_
      refine wpM_done ?_
      simp only [Exit.then]
      have hW := shelf_Builder_WriteString wr.heap.size wr.heap.size (Lib.byteCells (cdL (T.take q))) (lnB q (ptAt T q)) V hV3 (by rw [cells_len']; omega) hV2.size
      refine wpN_of ?_
      go_wp2_with fail
      refine hW.mono ?_
      clear hW
      rintro e w9 ⟨rfl, hA9, J9, hO9⟩
      have hc9 : w9.heap[ch]? = some (.chan k (rs.map Value.string).toArray true k (q + 1) false) := hO9 ch _ hV1 (by simp; omega) (by rintro c fz e; cases e)
      have hI9 : Lib.IsBuilderF 50 5 wr.heap.size wr.heap.size (Lib.byteCells (cdL (T.take (q + 1)))) w9 := by rw [htk.out, cells_app']; exact .inr hA9
      go_wp2_with fail
      exact ⟨q + 1, .string (lnB q (ptAt T q)), .tuple #[.string (lnB q (ptAt T q)), .bool true], .bool true, .string (lnB q (ptAt T q)), .string (lnB q (ptAt T q)), _, by omega, rfl, by rw [HRS.out]; exact hc9, hI9, hV2.trans J9⟩
    · rintro a' w' ⟨q, x8, x30, x31, x32, x33, x34, hq, rfl, hcw, hIw, hBw⟩
      obtain rfl : q = k := by omega
      have hdr : (lnsB T q).drop q = [] := List.drop_eq_nil_of_le (by rw [lnsB_len]; exact Nat.le_refl _)
      rw [hdr] at hcw
      have hTT : T.take q = T := List.take_of_length_le (by rw [HL.out]; exact Nat.le_refl _)
      rw [hTT] at hIw
      clear hdr hTT
      have zB := hBw.size
      have hS := shelf_Builder_String_any_k wr.heap.size wr.heap.size (cdL T) w' hIw zB
      have e2 : Hid (cdV l = ⟨(cdL T).toArray⟩) := HV.out
      refine wpN_seq (wpN_region ?_)
      simp only [List.size_toArray, List.length_cons, List.length_nil, Nat.reduceAdd, List.range, List.range.loop]
      refine wpM_shut (ok := true) (c := ch) (z := .string ⟨#[]⟩) rfl (by rfl) (by simp [go_sem, rcase]) hcw ?_
      simp only [got, if_true]
      refine wpM_value (w' := w') (v := .bool false) rfl (by rfl) (by simp [go_sem, Act.put]) ?_
      refine wpM_done ?_
      simp only [Exit.then]
      refine wpN_of ?_
      go_wp2_with fail
      refine wpN_seq (wpN_of ?_)
      go_wp2_with fail
      refine hS.mono ?_
      rintro e w9 ⟨rfl, -, J9, -⟩
      go_wp2_with fail
      refine wpN_of ?_
      go_wp2_with fail
      refine bodyPost_ret (v := .string ⟨(cdL T).toArray⟩) (by simp [results, go_sem]) rfl ?_
      exact ⟨by rw [e2.out], bw_trans Kr (hBw.trans J9)⟩
end Go.Proofs.YtfdnadiliedikaaDoor
namespace Go.Proofs.YtfdnadiliedikaaDoor
open Go.RowKit Go.Sort

theorem one_path {p : P2} (h : okP p = true) : pathP [p] = true := pathP_of (by simp) (fun q hq => by rw [List.mem_singleton.1 hq]; exact h) rfl
theorem one_stay {p : P2} (h : okP p = true) : stayV [p] = true ∧ stayR [p] = [p] := by
  have h1 : stayV [p] = true := stayV_of (by simp) (fun q hq => by rw [List.mem_singleton.1 hq]; exact h) rfl (by show 1 ≤ 400; omega)
  refine ⟨h1, ?_⟩
  unfold stayR
  rw [h1, if_pos rfl]
  rfl
theorem two_stay (p : P2) : stayV [p, p] = false := stayV_inl (i := 0) (by simp) (by show inlP p p = false; unfold inlP; simp)
theorem no_stay : stayV [] = false := stayV_len (by simp)
/-- The text of a path begins with its first word. -/
theorem path_text {l : List P2} (h : pathP l = true) : 2 ≤ (cdV l).size ∧ (cdV l).extract 0 2 = ⟨#[71, 48]⟩ := by
  unfold cdV
  rw [h, if_pos rfl]
  obtain ⟨r, hr⟩ := cdL_head (turnsL_nil (pathP_parts h).1.1)
  unfold cdB
  rw [hr]
  refine ⟨by unfold ByteArray.size; simp, ?_⟩
  apply ByteArray.ext
  simp
theorem pts_one (W : World) (x y : Int) : Pts (W.alloc (.cells #[.int .i64 x, .int .i64 y] 42)).heap.size (W.alloc (.cells #[.int .i64 x, .int .i64 y] 42)) (some ⟨W.heap.size, 0, none⟩) 1 [(x, y)] := by
  refine ⟨rfl, .inr ⟨W.heap.size, 0, rfl, by simp, fun j hj => ?_⟩⟩
  obtain rfl : j = 0 := by omega
  obtain ⟨h0, h1, _, _⟩ := blk2 (heap_new W (.cells #[.int .i64 x, .int .i64 y] 42))
  exact ⟨h0, h1⟩
theorem pts_two (W : World) (x y : Int) : Pts (W.alloc (.cells #[.int .i64 x, .int .i64 y, .int .i64 x, .int .i64 y] 42)).heap.size (W.alloc (.cells #[.int .i64 x, .int .i64 y, .int .i64 x, .int .i64 y] 42)) (some ⟨W.heap.size, 0, none⟩) 2 [(x, y), (x, y)] := by
  refine ⟨rfl, .inr ⟨W.heap.size, 0, rfl, by simp, fun j hj => ?_⟩⟩
  obtain ⟨h0, h1, h2, h3, _⟩ := blk4 (heap_new W (.cells #[.int .i64 x, .int .i64 y, .int .i64 x, .int .i64 y] 42))
  rcases (by omega : j = 0 ∨ j = 1) with rfl | rfl
  · exact ⟨h0, h1⟩
  · exact ⟨h2, h3⟩
set_option maxRecDepth 100000 in
set_option maxHeartbeats 4000000 in
theorem stayOne_walk (w : World) (a0 : Option Addr) (len0 cap0 : Nat) (z0 : List Int) (r0 : IsRow .u8 w a0 len0 cap0 z0) (a1 : Option Addr) (len1 cap1 : Nat) (z1 : List Int) (_ : IsRow .u8 w a1 len1 cap1 z1) (hT : Tab w) :
    Calls Tryd.prog 9 #[.slice a0 len0 cap0, .slice a1 len1 cap1] w fun e w' => e = .returned (.bool true) ∧ Below w.heap.size w w' := by
  by_cases hl0 : (1048576 : Int) < (len0 : Int)
  · go_enter Tryd.func9, Tryd.ntmps9
    go_wp2_with fail
    go_ret
    exact ⟨rfl, bw_refl _⟩
  by_cases hl1 : (1048576 : Int) < (len1 : Int)
  · go_enter Tryd.func9, Tryd.ntmps9
    go_wp2_with fail
    go_ret
    exact ⟨rfl, bw_refl _⟩
  obtain ⟨px, hpx⟩ : ∃ px, (len1 : Int) % 10 = px := ⟨_, rfl⟩
  obtain ⟨py, hpy⟩ : ∃ py, (len1 : Int) / 2 % 10 = py := ⟨_, rfl⟩
  have hok : okP (px, py) = true := by rw [okP_iff]; simp only; omega
  have t1 : (len1 : Int).tmod 10 = px := by rw [Int.tmod_eq_emod_of_nonneg (by omega)]; exact hpx
  have t2 : ((len1 : Int).tdiv 2).tmod 10 = py := by rw [Int.tdiv_eq_ediv_of_nonneg (by omega), Int.tmod_eq_emod_of_nonneg (by omega)]; exact hpy
  go_enter Tryd.func9, Tryd.ntmps9
  go_wp2_with fail
  refine (drawStay_any w _ r0 (bw_refl _)).mono ?_
  rintro e w1 ⟨g, c, l, rfl, hl1', hl8, hPB, hlc, hb, J1⟩
  have hP1 := hb.pts' rfl
  obtain ⟨n, hn⟩ : ∃ n, n = l.length := ⟨_, rfl⟩
  have HL : Hid (l.length = n) := hn.symm
  rw [← hn] at hP1 hl1' hl8 hlc
  rw [← hn]
  clear hb hn
  have hSS := sCodeStay_any (some ⟨g, 0, none⟩) n c l w1 (by omega) hP1
  have hII := fun V (J : Below w1.heap.size w1 V) => codeStay_any (some ⟨g, 0, none⟩) n c l V (by omega) hlc ((hP1.below J).grow J.size)
  have h400 := stayR_len l
  have hbb : ∀ b : Bool, (b != b) = false := by simp
  go_wp2_with fail
  refine hSS.mono ?_
  rintro e w2 ⟨v2, rfl, A2, J2⟩
  go_wp2_with fail
  refine (hII _ J2).mono ?_
  rintro e w3 ⟨v3, rfl, A3, J3⟩
  replace A2 := A2.below J3
  obtain ⟨a2, c2, rfl, P2'⟩ := A2.own
  obtain ⟨a3, c3, rfl, P3⟩ := A3.own
  have hSm := luSame_same a3 a2 (stayR l).length c3 c2 (stayR l) w3 P3 P2' (by omega)
  go_wp2_with fail
  refine hSm.mono ?_
  rintro e w4 ⟨rfl, J4⟩
  have J14 := bw_trans J1 (bw_trans J2 (bw_trans J3 J4))
  obtain ⟨V0, hV0, B0, T0⟩ : ∃ V, V = w4.alloc (.cells #[.int .i64 px, .int .i64 py] 42) ∧ Below w4.heap.size w4 V ∧ V.heap[w4.heap.size]? = some (.cells #[.int .i64 px, .int .i64 py] 42) := ⟨_, rfl, (by repeat (first | exact bw_refl _ | assumption | apply bw_drewN | apply bw_drew | apply bw_alloc | refine bw_set ?_ (by simp) _)), heap_new _ _⟩
  have zV0 : V0.heap.size = w4.heap.size + 1 := by rw [hV0]; simp
  obtain ⟨V1, hV1, B1⟩ : ∃ V, V = V0.alloc (.cells #[.int .i64 px, .int .i64 py] 42) ∧ Below V0.heap.size V0 V := ⟨_, rfl, (by repeat (first | exact bw_refl _ | assumption | apply bw_drewN | apply bw_drew | apply bw_alloc | refine bw_set ?_ (by simp) _))⟩
  have hone := pts_one V0 px py
  rw [← hV1, zV0] at hone
  have hV01 : V1 = (w4.alloc (.cells #[.int .i64 px, .int .i64 py] 42)).alloc (.cells #[.int .i64 px, .int .i64 py] 42) := by rw [hV1, hV0]
  have hC1 := codeStay_any (some ⟨w4.heap.size + 1, 0, none⟩) 1 1 [(px, py)] V1 (by omega) (by omega) hone
  rw [(one_stay hok).1, (one_stay hok).2] at hC1
  have JV1 := bw_trans J14 (bw_trans B0 B1)
  clear hV1 hV0
  go_wp2_with fail
  rw [← hV01]
  clear hV01
  refine hC1.mono ?_
  clear hC1
  rintro e w5 ⟨v5, rfl, A5, J5⟩
  obtain ⟨a5, c5, rfl, P5⟩ := A5.own
  have P5' : Pts w5.heap.size w5 a5 1 [(px, py)] := P5
  have T5 := keep J5 (keep B1 T0)
  obtain ⟨p0, p1, p2, p3⟩ := blk2 T5
  have htwo := pts_two w5 px py
  have BW5 : Below w5.heap.size w5 (w5.alloc (.cells #[.int .i64 px, .int .i64 py, .int .i64 px, .int .i64 py] 42)) := (by repeat (first | exact bw_refl _ | assumption | apply bw_drewN | apply bw_drew | apply bw_alloc | refine bw_set ?_ (by simp) _))
  have hC2 := codeStay_any (some ⟨w5.heap.size, 0, none⟩) 2 2 [(px, py), (px, py)] _ (by omega) (by omega) htwo
  rw [two_stay] at hC2
  go_wp2_with fail
  refine hC2.mono ?_
  clear hC2 htwo p0 p1 p2 p3
  rintro e w6 ⟨v6, rfl, -, J6⟩
  have J56 := bw_trans BW5 J6
  have hC3 := codeStay_any none 0 0 [] w6 (by omega) (by omega) ⟨rfl, .inl rfl⟩
  rw [no_stay] at hC3
  go_wp2_with fail
  refine hC3.mono ?_
  clear hC3
  rintro e w7 ⟨v7, rfl, -, J7⟩
  have J57 := bw_trans J56 J7
  obtain ⟨p0, p1, p2, p3⟩ := blk2 (keep J57 T5)
  have h7 := pts_one w7 px py
  have BW7 : Below w7.heap.size w7 (w7.alloc (.cells #[.int .i64 px, .int .i64 py] 42)) := (by repeat (first | exact bw_refl _ | assumption | apply bw_drewN | apply bw_drew | apply bw_alloc | refine bw_set ?_ (by simp) _))
  have J5W := bw_trans J57 BW7
  have hS7 := luSame_same a5 (some ⟨w7.heap.size, 0, none⟩) 1 c5 1 [(px, py)] _ ((P5'.below J5W).grow J5W.size) h7 (by omega)
  go_wp2_with fail
  refine hS7.mono ?_
  clear hS7 h7 p0 p1 p2 p3
  rintro e w8 ⟨rfl, J8⟩
  have J58 := bw_trans J5W J8
  obtain ⟨p0, p1, p2, p3⟩ := blk2 (keep J58 T5)
  have h8 := pts_one w8 px py
  have BW8 : Below w8.heap.size w8 (w8.alloc (.cells #[.int .i64 px, .int .i64 py] 42)) := (by repeat (first | exact bw_refl _ | assumption | apply bw_drewN | apply bw_drew | apply bw_alloc | refine bw_set ?_ (by simp) _))
  have J5X := bw_trans J58 BW8
  have JX := bw_trans JV1 (bw_trans J5 J5X)
  have hW8 := codeWrite_any (some ⟨w8.heap.size, 0, none⟩) 1 1 [(px, py)] _ (by omega) (by omega) h8 (hT.below JX)
  obtain ⟨hs2, hse⟩ := path_text (one_path hok)
  generalize cdV [(px, py)] = s at hW8 hs2 hse
  have i2 : (2 : Int) ≤ (s.size : Int) := by omega
  go_wp2_with fail
  refine hW8.mono ?_
  clear hW8 h8
  rintro e w9 ⟨rfl, J9⟩
  go_wp2_with fail
  go_ret
  exact ⟨rfl, bw_trans JX J9⟩
end Go.Proofs.YtfdnadiliedikaaDoor
namespace Go.Proofs.YtfdnadiliedikaaDoor
open Go.RowKit Go.Sort

theorem cdB_step (X : ByteArray) (t : List P2) (k : Nat) (hk : k < t.length) (hX : X = cdB (t.take k)) :
    X ++ ByteArray.mk (cwL k).toArray ++ ByteArray.mk #[32, 88] ++ ByteArray.mk (Lib.decDigits (ptAt t k).1.toNat).toArray ++ ByteArray.mk #[32, 89] ++ ByteArray.mk (Lib.decDigits (ptAt t k).2.toNat).toArray ++ ByteArray.mk #[10] = cdB (t.take (k + 1)) := by
  subst hX
  rw [take_snoc hk, cdB_snoc, List.length_take, Nat.min_eq_left (by omega)]
  unfold lnB lnL
  apply ByteArray.ext
  simp
set_option maxRecDepth 100000 in
set_option maxHeartbeats 4000000 in
theorem sWrite_ok (a : Option Addr) (np cp : Nat) (l : List P2) (w : World) (hP : Pts w.heap.size w a np l) (hp : pathP l = true) :
    Calls Tryd.prog 35 #[.slice a np cp] w fun e w' => e = .returned (.string (cdB (turnsL l))) ∧ Below w.heap.size w w' := by
  have hC := sTurns_ok a np cp l w hP hp
  have HOK := turns_okP hp
  have h400 : (turnsL l).length ≤ 400 := by have := turnsL_le l; have := (pathP_parts hp).1.2; omega
  generalize turnsL l = T at *
  go_enter Tryd.func35, Tryd.ntmps35
  go_wp2_with fail
  refine hC.mono ?_
  clear hC hP
  rintro e w1 ⟨v, rfl, hA, J1⟩
  obtain ⟨a1, c1, rfl, hP1⟩ := hA.own
  obtain ⟨m, hm⟩ : ∃ m, T.length = m := ⟨_, rfl⟩
  have HL : Hid (T.length = m) := hm
  rw [hm] at hP1 h400
  rw [hm]
  clear hm hA
  have H0 : Hid (cdB (T.take 0) = ⟨#[]⟩) := rfl
  have HE : Hid (cdB (T.take m) = cdB T) := by change _ = _; rw [List.take_of_length_le (by rw [HL.out]; exact Nat.le_refl _)]
  go_wp2_with fail
  go_loopw [4, 5] (fun s i wr => ∃ k : Nat, k ≤ m ∧ i = .int .i64 k ∧ s = .string (cdB (T.take k)) ∧ Below w1.heap.size w1 wr) (fun _ i _ => m - (intOf i).toNat)
  case atStart => exact ⟨0, Nat.zero_le _, rfl, by rw [H0.out], bw_refl _⟩
  case round =>
    obtain ⟨k, hk, rfl, rfl, hnx⟩ := hrel
    by_cases hlt : k < m
    case neg =>
      obtain rfl : k = m := by omega
      rw [HE.out]
      go_wp2_with fail
      go_ret
      exact ⟨rfl, bw_trans J1 hnx⟩
    case pos =>
      rcases hP1.2 with h0 | ⟨b, off, rfl, hbl, hcs⟩
      · omega
      obtain ⟨c0, c1'⟩ := hcs k hlt
      have d0 := cell_regrown ((hnx.cell (p := ⟨b, off + k * 2, none⟩) hbl).trans c0)
      have d1 := cell_regrown ((hnx.cell (p := ⟨b, off + k * 2 + 1, none⟩) hbl).trans c1')
      have hpk : okP (ptAt T k) = true := HOK _ (by rw [ptAt_lt (by rw [HL.out]; exact hlt)]; exact List.getElem_mem _)
      obtain ⟨⟨g0, g1⟩, g2, g3⟩ := (okP_iff _).1 hpk
      have hsz : (cdB (T.take k)).size ≤ 3600 := by
        rw [cdB_size (fun p hp => HOK p (List.mem_of_mem_take hp)), List.length_take]; omega
      have hst := cdB_step (cdB (T.take k)) T k (by rw [HL.out]; exact hlt) rfl
      have l1 := dec_len (ptAt T k).1 (by omega) (by omega)
      have l2 := dec_len (ptAt T k).2 (by omega) (by omega)
      have C1 : Hid (∀ d' os, Calls Tryd.prog 60 #[.int .i64 (ptAt T k).1] (grow (redrawn wr d') os) fun e w'' => e = .returned (.string ⟨(Lib.decDigits (ptAt T k).1.toNat).toArray⟩) ∧ Below (grow (redrawn wr d') os).heap.size (grow (redrawn wr d') os) w'') := fun d' os => dec_int _ _ (by omega) (by omega)
      have C2 : Hid (∀ d' os, Calls Tryd.prog 60 #[.int .i64 (ptAt T k).2] (grow (redrawn wr d') os) fun e w'' => e = .returned (.string ⟨(Lib.decDigits (ptAt T k).2.toNat).toArray⟩) ∧ Below (grow (redrawn wr d') os).heap.size (grow (redrawn wr d') os) w'') := fun d' os => dec_int _ _ (by omega) (by omega)
      have j0 : (0 : Int) ≤ (k : Int) := Int.natCast_nonneg _
      have j1 : (k : Int) < (m : Int) := by omega
      have HST : Hid _ := hst
      obtain ⟨nx, hx⟩ : ∃ nx, cdB (T.take (k + 1)) = nx := ⟨_, rfl⟩
      rw [hx] at HST
      have HX : Hid (cdB (T.take (k + 1)) = nx) := hx
      generalize cdB (T.take k) = X at *
      generalize (ptAt T k).1 = px at *
      generalize (ptAt T k).2 = py at *
      clear hcs c0 c1' hst hx g0 g1 g2 g3 hpk
      rcases Nat.eq_zero_or_pos k with h0 | h0
      · subst h0
        rw [Nat.zero_mul, Nat.add_zero] at d0 d1
        have e1 : Hid (X ++ ByteArray.mk #[71, 48] ++ ByteArray.mk #[32, 88] ++ ByteArray.mk (Lib.decDigits px.toNat).toArray ++ ByteArray.mk #[32, 89] ++ ByteArray.mk (Lib.decDigits py.toNat).toArray ++ ByteArray.mk #[10] = nx) := HST.out
        clear HST
        go_wp2_with fail
        refine wp_region_quiet_below (by kernel_rfl) (by kernel_rfl) ?_
        repeat (first | go_big_quiet_step (first | (go_at_call 60; with_reducible exact Calls.regrown_of (C1.out _ _)) | (go_at_call 60; with_reducible exact Calls.regrown_of (C2.out _ _))))
        refine wpQuiet_nil ?_
        intro _ hw'
        obtain ⟨⟨dq, osq⟩, hw''⟩ := hw'
        subst hw''
        have J9 := below_regrown wr dq osq
        generalize grow (redrawn wr dq) osq = w9 at J9 ⊢
        go_wp2_with fail
        go_roundw
        case rel => exact ⟨1, by omega, by simp, by rw [HX.out, ← e1.out], bw_trans hnx J9⟩
        case measure => simp [intOf]; omega
      · have e1 : Hid (X ++ ByteArray.mk #[71, 49] ++ ByteArray.mk #[32, 88] ++ ByteArray.mk (Lib.decDigits px.toNat).toArray ++ ByteArray.mk #[32, 89] ++ ByteArray.mk (Lib.decDigits py.toNat).toArray ++ ByteArray.mk #[10] = nx) := by
          have h := HST.out
          unfold cwL at h
          rw [if_neg (by omega)] at h
          exact h
        have k0 : ((k : Int) == 0) = false := by simp; omega
        clear HST
        go_wp2_with fail
        refine wp_region_quiet_below (by kernel_rfl) (by kernel_rfl) ?_
        repeat (first | go_big_quiet_step (first | (go_at_call 60; with_reducible exact Calls.regrown_of (C1.out _ _)) | (go_at_call 60; with_reducible exact Calls.regrown_of (C2.out _ _))))
        refine wpQuiet_nil ?_
        intro _ hw'
        obtain ⟨⟨dq, osq⟩, hw''⟩ := hw'
        subst hw''
        have J9 := below_regrown wr dq osq
        generalize grow (redrawn wr dq) osq = w9 at J9 ⊢
        go_wp2_with fail
        go_roundw
        case rel => exact ⟨k + 1, by omega, by simp, by rw [HX.out, ← e1.out], bw_trans hnx J9⟩
        case measure => simp [intOf]; omega
theorem turnsV_ok' (l : List P2) (h : pathP l = false) : cdV l = ⟨#[]⟩ := by unfold cdV; rw [h]; rfl
theorem sCodeWrite_any (a : Option Addr) (np cp : Nat) (l : List P2) (w : World) (hn : np ≤ 1048576) (hP : Pts w.heap.size w a np l) :
    Calls Tryd.prog 12 #[.slice a np cp] w fun e W' => e = .returned (.string (cdV l)) ∧ Below w.heap.size w W' := by
  have h1 := sPath_any a np cp l w hn hP
  cases hp : pathP l
  · have E : Hid (cdV l = ⟨#[]⟩) := turnsV_ok' l hp
    rw [hp] at h1
    go_enter Tryd.func12, Tryd.ntmps12
    go_wp2_with fail
    refine h1.mono ?_
    rintro e w1 ⟨rfl, J1⟩
    go_wp2_with fail
    go_ret
    exact ⟨by rw [E.out]; rfl, J1⟩
  · have E : Hid (cdV l = cdB (turnsL l)) := by change _ = _; unfold cdV; rw [hp]; rfl
    rw [hp] at h1
    go_enter Tryd.func12, Tryd.ntmps12
    go_wp2_with fail
    refine h1.mono ?_
    rintro e w1 ⟨rfl, J1⟩
    go_wp2_with fail
    refine (sWrite_ok a np cp l w1 ((hP.below J1).grow J1.size) hp).mono ?_
    rintro e w2 ⟨rfl, J2⟩
    go_wp2_with fail
    go_ret
    exact ⟨by rw [E.out]; rfl, bw_trans J1 J2⟩
end Go.Proofs.YtfdnadiliedikaaDoor
namespace Go.Proofs.YtfdnadiliedikaaDoor
open Go.RowKit Go.Sort

set_option maxRecDepth 100000 in
set_option maxHeartbeats 4000000 in
theorem drawCodeWrite_any {a : Option Addr} {len0 cap : Nat} {zs : List Int} (w0 w : World) (h : IsRow .u8 w0 a len0 cap zs) (hb : Below w0.heap.size w0 w) :
    Calls Tryd.prog 10 #[.slice a len0 cap] w (DrawnC 0 20 w) := by
  go_enter Tryd.func10, Tryd.ntmps10
  go_wp2_with fail
  refine (open_rd w0 _ h hb).mono ?_
  rintro e w1 ⟨len, rfl, R, hb1⟩
  have z1 := hb1.size
  have zr := R.lt
  go_wp2_with fail
  refine (l72Path_any 0 a len cap _ _ (by omega) R).mono ?_
  rintro e w2 ⟨g, c, l, rfl, hl, hPB, hlc, hb2, O⟩
  go_wp2_with fail
  go_ret
  exact ⟨g, c, l, rfl, Nat.zero_le _, hl, hPB, hlc, hb2, hb1.trans (O.below' (B := w.heap.size) (Nat.le_refl _) (by omega))⟩
theorem ba_ne2 {a b : ByteArray} (h : a ≠ b) : (a.toList == b.toList) = false := by
  rw [Bool.eq_false_iff]
  intro e
  apply h
  have e' : a.toList = b.toList := by simpa using e
  rw [Lib.toList_data, Lib.toList_data] at e'
  apply ByteArray.ext
  exact Array.toList_inj.1 e'
theorem cdV_none {l : List P2} (h : pathP l = false) : cdV l = ⟨#[]⟩ := by unfold cdV; rw [h]; rfl
theorem cdV_inj {l m : List P2} (hl : pathP l = true) (hm : pathP m = true) (h : cdV l = cdV m) : l = m := by
  unfold cdV at h
  rw [hl, hm, if_pos rfl, if_pos rfl] at h
  have := congrArg (fun b => b.data.toList) h
  unfold cdB at this
  exact cdL_one hl hm (by simpa using this)
theorem text_some {s : ByteArray} (h : 2 ≤ s.size) : s.toList.isEmpty = false := by
  rw [Lib.toList_data]
  have e0 : s.data.toList.length = s.size := Array.length_toList
  cases hc : s.data.toList with
  | nil => rw [hc] at e0; simp at e0; omega
  | cons _ _ => rfl
set_option maxRecDepth 100000 in
set_option maxHeartbeats 4000000 in
theorem codeOne_walk (w : World) (a0 : Option Addr) (len0 cap0 : Nat) (z0 : List Int) (r0 : IsRow .u8 w a0 len0 cap0 z0) (a1 : Option Addr) (len1 cap1 : Nat) (z1 : List Int) (r1 : IsRow .u8 w a1 len1 cap1 z1) (hT : Tab w) :
    Calls Tryd.prog 5 #[.slice a0 len0 cap0, .slice a1 len1 cap1] w fun e w' => e = .returned (.bool true) ∧ Below w.heap.size w w' := by
  by_cases hl0 : (1048576 : Int) < (len0 : Int)
  · go_enter Tryd.func5, Tryd.ntmps5
    go_wp2_with fail
    go_ret
    exact ⟨rfl, bw_refl _⟩
  by_cases hl1 : (1048576 : Int) < (len1 : Int)
  · go_enter Tryd.func5, Tryd.ntmps5
    go_wp2_with fail
    go_ret
    exact ⟨rfl, bw_refl _⟩
  go_enter Tryd.func5, Tryd.ntmps5
  go_wp2_with fail
  refine (drawCodeWrite_any w _ r0 (bw_refl _)).mono ?_
  rintro e w1 ⟨g, c, l, rfl, _, hl20, _, hlc, hb, J1⟩
  have hP1 := hb.pts' rfl
  obtain ⟨n, hn⟩ : ∃ n, n = l.length := ⟨_, rfl⟩
  rw [← hn] at hP1 hl20 hlc
  rw [← hn]
  clear hb hn
  go_wp2_with fail
  refine (drawTurns_any w _ r1 J1).mono ?_
  rintro e w2 ⟨g2, c2, l2, rfl, _, hl202, _, hlc2, hb2, J2⟩
  have hP2 := hb2.pts' rfl
  obtain ⟨n2, hn2⟩ : ∃ n2, n2 = l2.length := ⟨_, rfl⟩
  rw [← hn2] at hP2 hl202 hlc2
  rw [← hn2]
  clear hb2 hn2
  have K2 := bw_trans J1 J2
  have hP12 := (hP1.below J2).grow J2.size
  have hT2 := hT.below K2
  have hWa := fun V (J : Below w2.heap.size w2 V) => codeWrite_any (some ⟨g, 0, none⟩) n c l V (by omega) hlc ((hP12.below J).grow J.size) (hT2.below J)
  have hWb := fun V (J : Below w2.heap.size w2 V) => codeWrite_any (some ⟨g2, 0, none⟩) n2 c2 l2 V (by omega) hlc2 ((hP2.below J).grow J.size) (hT2.below J)
  have hSa := fun V (J : Below w2.heap.size w2 V) => sCodeWrite_any (some ⟨g, 0, none⟩) n c l V (by omega) ((hP12.below J).grow J.size)
  have hSm := fun V (J : Below w2.heap.size w2 V) => luSame_any (some ⟨g, 0, none⟩) (some ⟨g2, 0, none⟩) n n2 c c2 l l2 V ((hP12.below J).grow J.size) ((hP2.below J).grow J.size) (by omega)
  cases hpa : pathP l with
  | false =>
    rw [cdV_none hpa] at hWa hSa
    generalize cdV l2 = t at hWb
    go_wp2_with fail
    refine (hWa _ (bw_refl _)).mono ?_
    rintro e w3 ⟨rfl, J3⟩
    go_wp2_with fail
    refine (hWb _ J3).mono ?_
    rintro e w4 ⟨rfl, J4⟩
    have J34 := bw_trans J3 J4
    go_wp2_with fail
    refine (hSa _ J34).mono ?_
    rintro e w5 ⟨rfl, J5⟩
    have J35 := bw_trans J34 J5
    go_wp2_with fail
    refine (hSa _ J35).mono ?_
    rintro e w6 ⟨rfl, J6⟩
    go_wp2_with fail
    go_ret
    exact ⟨rfl, bw_trans K2 (bw_trans J35 J6)⟩
  | true =>
  obtain ⟨hs2, hse⟩ := path_text hpa
  have hsn := text_some hs2
  cases hpb : pathP l2 with
  | false =>
    rw [cdV_none hpb] at hWb
    generalize cdV l = s at *
    go_wp2_with fail
    refine (hWa _ (bw_refl _)).mono ?_
    rintro e w3 ⟨rfl, J3⟩
    go_wp2_with fail
    refine (hWb _ J3).mono ?_
    rintro e w4 ⟨rfl, J4⟩
    have J34 := bw_trans J3 J4
    go_wp2_with fail
    refine (hSa _ J34).mono ?_
    rintro e w5 ⟨rfl, J5⟩
    have J35 := bw_trans J34 J5
    go_wp2_with fail
    refine (hSa _ J35).mono ?_
    rintro e w6 ⟨rfl, J6⟩
    go_wp2_with fail
    go_ret
    exact ⟨rfl, bw_trans K2 (bw_trans J35 J6)⟩
  | true =>
  obtain ⟨ht2, hte⟩ := path_text hpb
  have htn := text_some ht2
  have heq : (decide (cdV l = cdV l2)) = decide (l = l2) := by
    by_cases e : l = l2
    · subst e; simp
    · rw [decide_eq_false e, decide_eq_false (fun h => e (cdV_inj hpa hpb h))]
  generalize cdV l = s at *
  generalize cdV l2 = t at *
  generalize decide (l = l2) = q at *
  have i2 : (2 : Int) ≤ (s.size : Int) := by omega
  have i3 : (2 : Int) ≤ (t.size : Int) := by omega
  by_cases est : s = t
  case pos =>
    subst est
    have hq : q = true := by rw [← heq]; simp
    subst hq
    clear heq
    go_wp2_with fail
    refine (hWa _ (bw_refl _)).mono ?_
    rintro e w3 ⟨rfl, J3⟩
    go_wp2_with fail
    refine (hWb _ J3).mono ?_
    rintro e w4 ⟨rfl, J4⟩
    have J34 := bw_trans J3 J4
    go_wp2_with fail
    refine (hSa _ J34).mono ?_
    rintro e w5 ⟨rfl, J5⟩
    have J35 := bw_trans J34 J5
    go_wp2_with fail
    refine (hSm _ J35).mono ?_
    rintro e w6 ⟨rfl, J6⟩
    go_wp2_with fail
    go_ret
    exact ⟨rfl, bw_trans K2 (bw_trans J35 J6)⟩
  case neg =>
    have hq : q = false := by rw [← heq]; exact decide_eq_false est
    subst hq
    have hst := ba_ne2 est
    clear heq
    go_wp2_with fail
    refine (hWa _ (bw_refl _)).mono ?_
    rintro e w3 ⟨rfl, J3⟩
    go_wp2_with fail
    refine (hWb _ J3).mono ?_
    rintro e w4 ⟨rfl, J4⟩
    have J34 := bw_trans J3 J4
    go_wp2_with fail
    refine (hSa _ J34).mono ?_
    rintro e w5 ⟨rfl, J5⟩
    have J35 := bw_trans J34 J5
    go_wp2_with fail
    refine (hSm _ J35).mono ?_
    rintro e w6 ⟨rfl, J6⟩
    go_wp2_with fail
    go_ret
    exact ⟨rfl, bw_trans K2 (bw_trans J35 J6)⟩
end Go.Proofs.YtfdnadiliedikaaDoor
namespace Go.Proofs.YtfdnadiliedikaaDoor
open Go

/-- Letters cut at each letter c. -/
def cutL (c : UInt8) : List UInt8 → List (List UInt8)
  | [] => [[]]
  | b :: r => if b = c then [] :: cutL c r else match cutL c r with
    | [] => [[b]]
    | x :: xs => (b :: x) :: xs
theorem cutL_ne (c : UInt8) (l : List UInt8) : cutL c l ≠ [] := by
  cases l with
  | nil => simp [cutL]
  | cons b r =>
    unfold cutL
    split
    · simp
    · split <;> simp
theorem index_one_hit (c : UInt8) (r : List UInt8) : Lib.index (c :: r) [c] = 0 := by
  unfold Lib.index; simp [List.isPrefixOf]
theorem index_one_miss {b c : UInt8} (h : b ≠ c) (r : List UInt8) : Lib.index (b :: r) [c] = if Lib.index r [c] == -1 then -1 else Lib.index r [c] + 1 := by
  have h' : ¬ (c = b) := fun e => h e.symm
  rw [Lib.index, if_neg (by simp [List.isPrefixOf, h'])]
theorem splitK_cut (c : UInt8) (l : List UInt8) : Lib.splitK [c] 0 (Lib.count l [c]) l = cutL c l := by
  induction l with
  | nil =>
    have h : Lib.index [] [c] = -1 := by simp [Lib.index]
    rw [Lib.count_miss h]; rfl
  | cons b r ih =>
    by_cases hb : b = c
    · subst hb
      have h := index_one_hit b r
      have hc : Lib.count (b :: r) [b] = 1 + Lib.count r [b] := by
        have := Lib.count_hit (s := b :: r) (sub := [b]) (i := 0) (by simp) h
        simpa using this
      rw [hc, Nat.add_comm, Lib.splitK, if_neg (by rw [h]; decide), h, cutL, if_pos rfl, ← ih]
      simp
    · have hcase : Lib.index r [c] = -1 ∨ ∃ i : Nat, Lib.index r [c] = i := by
        have := Lib.index_ge r [c]
        by_cases h : Lib.index r [c] = -1
        · exact .inl h
        · exact .inr ⟨(Lib.index r [c]).toNat, by omega⟩
      rcases hcase with hm | ⟨i, hi⟩
      · have h : Lib.index (b :: r) [c] = -1 := by rw [index_one_miss hb, hm]; rfl
        rw [Lib.count_miss hm] at ih
        rw [Lib.count_miss h, cutL, if_neg hb, ← ih]
        rfl
      · have h : Lib.index (b :: r) [c] = ((i + 1 : Nat) : Int) := by
          rw [index_one_miss hb, hi, if_neg (by simp)]; simp
        have hc : Lib.count (b :: r) [c] = 1 + Lib.count (r.drop (i + 1)) [c] := by
          have := Lib.count_hit (s := b :: r) (sub := [c]) (i := i + 1) (by simp) h
          simpa using this
        have hr : Lib.count r [c] = 1 + Lib.count (r.drop (i + 1)) [c] := by
          have := Lib.count_hit (s := r) (sub := [c]) (i := i) (by simp) hi
          simpa using this
        rw [hr, Nat.add_comm, Lib.splitK, if_neg (by rw [hi]; simp), hi] at ih
        rw [hc, Nat.add_comm, Lib.splitK, if_neg (by rw [h]; simp; omega), h, cutL, if_neg hb, ← ih]
        simp
theorem cutL_snoc_hit (c : UInt8) (l : List UInt8) : cutL c (l ++ [c]) = cutL c l ++ [[]] := by
  induction l with
  | nil => simp [cutL]
  | cons b r ih =>
    rw [List.cons_append]
    by_cases hb : b = c
    · rw [cutL, cutL, if_pos hb, if_pos hb, ih]; rfl
    · rw [cutL, cutL, if_neg hb, if_neg hb, ih]
      cases h : cutL c r with
      | nil => exact absurd h (cutL_ne c r)
      | cons x xs => rfl
theorem cutL_snoc_miss {b c : UInt8} (h : b ≠ c) (l : List UInt8) : ∃ u x, cutL c l = u ++ [x] ∧ cutL c (l ++ [b]) = u ++ [x ++ [b]] := by
  induction l with
  | nil => exact ⟨[], [], rfl, by simp [cutL, h]⟩
  | cons a r ih =>
    obtain ⟨u, x, e1, e2⟩ := ih
    rw [List.cons_append]
    by_cases ha : a = c
    · exact ⟨[] :: u, x, by rw [cutL, if_pos ha, e1]; rfl, by rw [cutL, if_pos ha, e2]; rfl⟩
    · cases u with
      | nil => exact ⟨[], a :: x, by rw [cutL, if_neg ha, e1]; rfl, by rw [cutL, if_neg ha, e2]; rfl⟩
      | cons y ys => exact ⟨(a :: y) :: ys, x, by rw [cutL, if_neg ha, e1]; rfl, by rw [cutL, if_neg ha, e2]; rfl⟩
end Go.Proofs.YtfdnadiliedikaaDoor
namespace Go.Proofs.YtfdnadiliedikaaDoor
open Go.RowKit Go.Sort

/-- The letters of a point. -/
def wdL (p : P2) : List UInt8 := Lib.decDigits p.1.toNat ++ [44] ++ Lib.decDigits p.2.toNat
def wdB (p : P2) : ByteArray := ⟨(wdL p).toArray⟩
theorem wdB_eq (p : P2) : ByteArray.mk (Lib.decDigits p.1.toNat).toArray ++ ByteArray.mk #[44] ++ ByteArray.mk (Lib.decDigits p.2.toNat).toArray = wdB p := by
  have e : (ByteArray.mk #[44]) = ByteArray.mk ([44] : List UInt8).toArray := rfl
  rw [e, ByteArray.mk_append_mk, ByteArray.mk_append_mk]; rfl
theorem wdL_len {p : P2} (hp : ptB p.1 p.2 = true) : (wdL p).length ≤ 43 := by
  obtain ⟨a, b, c, d⟩ := (ptB_iff _ _).1 hp
  have l1 := dec_len p.1 (by omega) (by omega)
  have l2 := dec_len p.2 (by omega) (by omega)
  unfold wdL
  simp only [List.length_append, List.length_cons, List.length_nil]
  omega
end Go.Proofs.YtfdnadiliedikaaDoor
namespace Go.Proofs.YtfdnadiliedikaaDoor
open Go.RowKit Go.Sort

/-- The letters of points, a blank between. -/
def txL (l : List P2) : List UInt8 := Lib.join (l.map wdL) [32]
def txB (l : List P2) : ByteArray := ⟨(txL l).toArray⟩
theorem txL_nil : txL [] = [] := rfl
theorem txL_one (p : P2) : txL [p] = wdL p := Lib.join_one _ _
theorem joinTail_snoc (sep x : List UInt8) (r : List (List UInt8)) : Lib.joinTail sep (r ++ [x]) = Lib.joinTail sep r ++ sep ++ x := by
  unfold Lib.joinTail; simp [List.append_assoc]
theorem txL_snoc {l : List P2} (h : l ≠ []) (p : P2) : txL (l ++ [p]) = txL l ++ [32] ++ wdL p := by
  cases l with
  | nil => exact absurd rfl h
  | cons a r =>
    unfold txL
    rw [List.cons_append, List.map_cons, List.map_append, List.map_cons, List.map_nil, Lib.join_cons, List.map_cons, Lib.join_cons, joinTail_snoc]
    simp [List.append_assoc]
theorem txB_nil : txB [] = ⟨#[]⟩ := rfl
theorem txB_one (p : P2) : txB [p] = wdB p := by unfold txB wdB; rw [txL_one]
theorem txB_snoc {l : List P2} (h : l ≠ []) (p : P2) : txB l ++ ByteArray.mk #[32] ++ wdB p = txB (l ++ [p]) := by
  have e : (ByteArray.mk #[32]) = ByteArray.mk ([32] : List UInt8).toArray := rfl
  unfold txB wdB
  rw [e, ByteArray.mk_append_mk, ByteArray.mk_append_mk, txL_snoc h]
theorem lens_le (l : List P2) (h : ∀ p ∈ l, ptB p.1 p.2 = true) : Lib.lens (l.map wdL) ≤ 43 * l.length := by
  induction l with
  | nil => simp [Lib.lens]
  | cons a r ih =>
    have h1 := wdL_len (h a (by simp))
    have h2 := ih fun p hp => h p (by simp [hp])
    simp only [Lib.lens, List.map_cons, List.sum_cons, List.length_cons] at h2 ⊢
    omega
theorem txL_len (l : List P2) (h : ∀ p ∈ l, ptB p.1 p.2 = true) : (txL l).length ≤ 44 * l.length := by
  cases l with
  | nil => simp [txL_nil]
  | cons a r =>
    have h2 := lens_le (a :: r) h
    unfold txL
    rw [List.map_cons, Lib.join_length, List.length_map]
    rw [List.map_cons] at h2
    simp only [List.length_cons, List.length_nil] at h2 ⊢
    omega
theorem txB_size (l : List P2) (h : ∀ p ∈ l, ptB p.1 p.2 = true) : (txB l).size ≤ 44 * l.length := by
  have := txL_len l h
  unfold txB ByteArray.size; simpa using this
theorem wdB_size {p : P2} (hp : ptB p.1 p.2 = true) : (wdB p).size ≤ 43 := by have := wdL_len hp; unfold wdB ByteArray.size; simpa using this
theorem words_at (l : List P2) (j : Nat) (x : ByteArray) (h : (l.map wdB)[j]? = some x) : (l.map fun p => Value.string (wdB p))[j]? = some (.string x) := by
  rw [List.getElem?_map] at h ⊢
  cases hj : l[j]? with
  | none => rw [hj] at h; cases h
  | some p => rw [hj] at h; simp at h ⊢; rw [h]
theorem words_join (l : List P2) : (Lib.join ((l.map wdB).map (·.data.toList)) (ByteArray.mk #[32]).data.toList) = txL l := by
  unfold txL
  rw [List.map_map]
  congr 1
end Go.Proofs.YtfdnadiliedikaaDoor
namespace Go.Proofs.YtfdnadiliedikaaDoor
open Go.RowKit Go.Sort

theorem Tryd.infoStr : (Tryd.prog.info? 9).map (fun i => (i.zero, i.size, i.bytes)) = some (some (.string ⟨#[]⟩), 1, 16) := by kernel_rfl
theorem take_snocW {l : List P2} {k : Nat} (h : k < l.length) : l.take (k + 1) = l.take k ++ [ptAt l k] := by
  rw [List.take_add_one]; simp [ptAt, h]
end Go.Proofs.YtfdnadiliedikaaDoor
namespace Go.Proofs.YtfdnadiliedikaaDoor
open Go.RowKit Go.Sort

theorem cutL_len (c : UInt8) (l : List UInt8) : (cutL c l).length ≤ l.length + 1 := by
  induction l with
  | nil => simp [cutL]
  | cons b r ih =>
    by_cases hb : b = c
    · rw [cutL, if_pos hb]; simp only [List.length_cons] at ih ⊢; omega
    · rw [cutL, if_neg hb]
      cases h : cutL c r with
      | nil => simp
      | cons x xs => rw [h] at ih; simp only [List.length_cons] at ih ⊢; omega
theorem cutL_word (c : UInt8) (l : List UInt8) : ∀ x ∈ cutL c l, x.length ≤ l.length := by
  induction l with
  | nil => intro x hx; simp [cutL] at hx; subst hx; simp
  | cons b r ih =>
    intro x hx
    by_cases hb : b = c
    · rw [cutL, if_pos hb] at hx
      rcases List.mem_cons.1 hx with e | e
      · subst e; simp
      · have := ih x e; simp only [List.length_cons]; omega
    · rw [cutL, if_neg hb] at hx
      cases h : cutL c r with
      | nil => rw [h] at hx; simp at hx; subst hx; simp
      | cons y ys =>
        rw [h] at hx ih
        rcases List.mem_cons.1 hx with e | e
        · subst e; have := ih y (by simp); simp only [List.length_cons]; omega
        · have := ih x (by simp [e]); simp only [List.length_cons]; omega
theorem cellAl' {W : World} {o : Obj} {a : Addr} {v : Value} (h : W.cell? a = some v) : (W.alloc o).cell? a = some v := (Below.cell (bw_alloc (bw_refl _) o) (World.block_lt_of_cell? _ _ h)).trans h
/-- Words, as a row of strings. -/
def wordsV (ls : List (List UInt8)) : List Value := ls.map fun x => Value.string ⟨x.toArray⟩
set_option maxRecDepth 100000 in
set_option maxHeartbeats 2000000 in
theorem sCut_big (s : ByteArray) (c : UInt8) (hs : s.size ≤ 5000) (w : World) :
    Calls Tryd.prog 46 #[.string s, .int .u8 c.toNat] w fun e w' => ∃ v, e = .returned v ∧ w'.ownsRow w.heap.size 9 1 v (cutL c s.data.toList).length (wordsV (cutL c s.data.toList)) ∧ Below w.heap.size w w' := by
  obtain ⟨i0, hi0, hz0, hz1, hz2⟩ := info_parts Tryd.infoStr
  have H0 : w.ownsRow w.heap.size 9 1 (.slice none 0 0) 0 [] := World.ownsRow_nil _ _ _ _
  have HN := World.ownsRow_lit w (base := w.heap.size) (e := 9) (size := 1) #[.string ⟨#[]⟩] 1 (Nat.le_refl _) (by simp [maxLen]) rfl
  go_enter Tryd.func46, Tryd.ntmps46
  go_wp2_with fail
  go_loopw [5, 6] (fun o i wr => ∃ (k : Nat) (v : Value), v = o ∧ k ≤ s.size ∧ i = .int .i64 k ∧ wr.ownsRow w.heap.size 9 1 v (cutL c (s.data.toList.take k)).length (wordsV (cutL c (s.data.toList.take k))) ∧ Below w.heap.size w wr) (fun _ i _ => s.size - (intOf i).toNat)
  case atStart => exact ⟨0, _, rfl, Nat.zero_le _, rfl, HN, (by repeat (first | exact bw_refl _ | assumption | apply bw_drewN | apply bw_drew | apply bw_alloc | refine bw_set ?_ (by simp) _))⟩
  case round =>
    obtain ⟨k, v, rfl, hk, rfl, hown, hnx⟩ := hrel
    by_cases hlt : k < s.size
    case neg =>
      obtain rfl : k = s.size := by omega
      rw [List.take_of_length_le (by unfold ByteArray.size; simp)] at hown
      go_wp2_with fail
      go_ret
      exact ⟨_, rfl, hown, hnx⟩
    case pos =>
      have i0' : (0 : Int) ≤ (k : Int) := Int.natCast_nonneg _
      have i1 : (k : Int) < (s.size : Int) := by omega
      have hkd : k < s.data.toList.length := by unfold ByteArray.size at hlt; simpa using hlt
      have htk : s.data.toList.take (k + 1) = s.data.toList.take k ++ [s[k]] := by
        rw [List.take_add_one, List.getElem?_eq_getElem hkd]; rfl
      have HT : Hid (s.data.toList.take (k + 1) = s.data.toList.take k ++ [s[k]]) := htk
      have hle : (cutL c (s.data.toList.take k)).length ≤ k + 1 := by
        have := cutL_len c (s.data.toList.take k); rw [List.length_take] at this; omega
      have q1 : IntKind.i64.wrap ((k : Int) + 1) = (k : Int) + 1 := wrap_small (by omega) (by omega)
      have zw := hnx.size
      clear htk
      by_cases hc : s[k] = c
      case pos =>
        have hE : ((s[k].toNat : Int) == (c.toNat : Int)) = true := by rw [hc]; simp
        have HC : Hid (s[k] = c) := hc
        obtain ⟨n, hn⟩ : ∃ n, (cutL c (s.data.toList.take k)).length = n := ⟨_, rfl⟩
        have HNn : Hid ((cutL c (s.data.toList.take k)).length = n) := hn
        rw [hn] at hown hle
        clear hc hn
        go_wp2_with (at_builtin; refine wpList_append_lies _ rfl _ _ _ rfl w.heap.size 9 i0 _ 1 16 Tryd.underlying46 hi0 hz0 hz1 hz2 rfl (by omega) _ n _ rfl (hown.alloc _) ⟨wr.heap.size, 0, none⟩ 1 1 [.string ⟨#[]⟩] rfl rfl (World.news_of_block (cs := #[.string ⟨#[]⟩]) (t := 9) (fr := (0, 0)) (heap_alloc_new wr _)) (by simp [Value.oneCell']) (by omega) (by simp [maxLen]; omega) (by omega) (by simp; omega) (wr.heap.size + 1) (by simp) ?_; intro gg cap' w8 hown1 hgrow hat hlt1)
        go_roundw
        case rel =>
          refine ⟨k + 1, _, rfl, by omega, by simp, ?_, (hnx.alloc hnx.size _).grown hgrow (by simp; omega) (fun j e => (hown.lt j e).1)⟩
          rw [HT.out, HC.out, cutL_snoc_hit, List.length_append, HNn.out]
          unfold wordsV at hown1 ⊢
          rw [List.map_append]
          exact hown1
        case measure => simp [intOf]; omega
      case neg =>
        have hE : ((s[k].toNat : Int) == (c.toNat : Int)) = false := by
          rw [beq_eq_false_iff_ne]; intro e; exact hc (UInt8.toNat_inj.1 (by omega))
        obtain ⟨u, x, hux, hux2⟩ := cutL_snoc_miss (c := c) hc (s.data.toList.take k)
        have HX : Hid (cutL c (s.data.toList.take k ++ [s[k]]) = u ++ [x ++ [s[k]]]) := hux2
        rw [hux] at hown hle
        obtain ⟨m, hm⟩ : ∃ m, u.length = m := ⟨_, rfl⟩
        rw [List.length_append, List.length_cons, List.length_nil, hm] at hown hle
        have HM : Hid (u.length = m) := hm
        obtain ⟨g, cap, rfl, hg, hcap⟩ := hown.form (by omega)
        have hcl := hown.cellAt m (by omega)
        have hfz := hown.frozenAt m
        have hcx : wr.cell? ⟨g, m, none⟩ = some (.string ⟨x.toArray⟩) := by
          rw [hcl]; unfold wordsV; rw [List.map_append, List.getElem?_append_right (by rw [List.length_map, hm]; exact Nat.le_refl _), List.length_map, hm, Nat.sub_self]; rfl
        have zg := (hown.lt g rfl).2
        have j1 : IntKind.i64.wrap (m : Int) = (m : Int) := wrap_small (by omega) (by omega)
        have j2 : (0 : Int) ≤ (m : Int) := Int.natCast_nonneg _
        have j3 : (m : Int) < (m : Int) + 1 := by omega
        have hxl : x.length ≤ k := by
          have := cutL_word c (s.data.toList.take k) x (by rw [hux]; simp); rw [List.length_take] at this; omega
        have hcv := conv_one (s[k].toNat : Int) (by omega) (by have := s[k].toNat_lt; omega)
        have hxz : (ByteArray.mk x.toArray).size ≤ 5000 := by unfold ByteArray.size; simp; omega
        have HCat : Hid (ByteArray.mk x.toArray ++ ByteArray.mk #[s[k]] = ByteArray.mk (x ++ [s[k]]).toArray) := by
          change _ = _
          rw [show (ByteArray.mk #[s[k]]) = ByteArray.mk ([s[k]] : List UInt8).toArray from rfl, ByteArray.mk_append_mk]
        -- REGION
        clear hc hux hux2 hm hcl
        have hmx : Tryd.prog.follows .mixedOrders = true := by kernel_rfl
        go_wp2_with fail
        refine wp_region_held (S := fun _ => True) hmx ?_
        refine wpAnyH_take (i := 0) (v := .slice (some ⟨g, 0, none⟩) (m + 1) cap) rfl (by kernel_rfl) (by kernel_rfl) (by kernel_rfl) (fun _ _ _ h => h) (Or.inl ⟨by rfl, by rintro w' -; go_simp⟩) trivial ?_
        refine wpAnyH_take (i := 1) (v := .slice (some ⟨g, 0, none⟩) (m + 1) cap) rfl (by kernel_rfl) (by kernel_rfl) (by kernel_rfl) (fun _ _ _ h => h) (Or.inl ⟨by rfl, by rintro w' -; go_simp⟩) trivial ?_
        refine wpAnyH_take (i := 2) (v := .int .i64 ((m : Int) + 1)) rfl (by kernel_rfl) (by kernel_rfl) (by kernel_rfl) (fun _ _ _ h => h) (Or.inl ⟨by rfl, by rintro w' -; go_simp⟩) trivial ?_
        refine wpAnyH_take (i := 3) (v := .int .i64 (m : Int)) rfl (by kernel_rfl) (by kernel_rfl) (by kernel_rfl) (fun _ _ _ h => h) (Or.inl ⟨by rfl, by rintro w' -; go_simp⟩) trivial ?_
        refine wpAnyH_take (i := 4) (v := .slice (some ⟨g, 0, none⟩) (m + 1) cap) rfl (by kernel_rfl) (by kernel_rfl) (by kernel_rfl) (fun _ _ _ h => h) (Or.inl ⟨by rfl, by rintro w' -; go_simp⟩) trivial ?_
        refine wpAnyH_take (i := 5) (v := .slice (some ⟨g, 0, none⟩) (m + 1) cap) rfl (by kernel_rfl) (by kernel_rfl) (by kernel_rfl) (fun _ _ _ h => h) (Or.inl ⟨by rfl, by rintro w' -; go_simp⟩) trivial ?_
        refine wpAnyH_take (i := 6) (v := .int .i64 ((m : Int) + 1)) rfl (by kernel_rfl) (by kernel_rfl) (by kernel_rfl) (fun _ _ _ h => h) (Or.inl ⟨by rfl, by rintro w' -; go_simp⟩) trivial ?_
        refine wpAnyH_take (i := 7) (v := .int .i64 (m : Int)) rfl (by kernel_rfl) (by kernel_rfl) (by kernel_rfl) (fun _ _ _ h => h) (Or.inl ⟨by rfl, by rintro w' -; go_simp⟩) trivial ?_
        refine wpAnyH_take (i := 8) (v := .pointer (some ⟨g, m, none⟩)) rfl (by kernel_rfl) (by kernel_rfl) (by kernel_rfl) (fun _ _ _ h => h) (Or.inl ⟨by rfl, by rintro w' -; go_simp⟩) trivial ?_
        refine wpAnyH_take (i := 10) (v := .string s) rfl (by kernel_rfl) (by kernel_rfl) (by kernel_rfl) (fun _ _ _ h => h) (Or.inl ⟨by rfl, by rintro w' -; go_simp⟩) trivial ?_
        refine wpAnyH_take (i := 11) (v := .int .i64 (k : Int)) rfl (by kernel_rfl) (by kernel_rfl) (by kernel_rfl) (fun _ _ _ h => h) (Or.inl ⟨by rfl, by rintro w' -; go_simp⟩) trivial ?_
        refine wpAnyH_take (i := 12) (v := .int .u8 (s[k].toNat : Int)) rfl (by kernel_rfl) (by kernel_rfl) (by kernel_rfl) (fun _ _ _ h => h) (Or.inl ⟨by rfl, by rintro w' -; go_simp⟩) trivial ?_
        have hc1 : (wr.drew.alloc (.cells #[.int .u8 (s[k].toNat : Int)] 5)).cell? ⟨g, m, none⟩ = some (.string ⟨x.toArray⟩) := cellAl' hcx
        have hn1 : (wr.drew.alloc (.cells #[.int .u8 (s[k].toNat : Int)] 5)).cell? ⟨wr.heap.size, 0, none⟩ = some (.int .u8 (s[k].toNat : Int)) := (row_cell (heap_new wr.drew (.cells #[.int .u8 (s[k].toNat : Int)] 5))).trans rfl
        have hx9 : (9223372036854775807 < x.length + 1) = False := by simp; omega
        have hcv1 := hcv (wr.drew.alloc (.cells #[.int .u8 (s[k].toNat : Int)] 5)) wr.heap.size hn1
        refine wpAnyH_all (rs := [9, 13]) (by kernel_rfl) (by simp) ?_
        intro i hi
        have hi' : i = 9 ∨ i = 13 := by simpa using hi
        clear hi
        rcases hi' with rfl | rfl
        · skip
          refine YieldsIf.wpOp (S := fun w' => w' = wr.drew) (v := .string ⟨x.toArray⟩) rfl (Or.inl ⟨by rfl, by rintro w' rfl; go_simp⟩) rfl ⟨trivial, ?_⟩
          refine wpAnyH_all (rs := [13]) (by kernel_rfl) (by simp) ?_
          intro i hi
          have h7 := List.mem_singleton.1 hi
          clear hi
          subst h7
          refine wpOp_now rfl (by rfl) ?_
          go_simp
          refine wpAnyH_all (rs := [14]) (by kernel_rfl) (by simp) ?_
          intro i hi
          have h7 := List.mem_singleton.1 hi
          clear hi
          subst h7
          refine wpOp_now rfl (by rfl) ?_
          go_simp
          refine wpAnyH_take (i := 15) (v := .string ⟨(x ++ [s[k]]).toArray⟩) rfl (by kernel_rfl) (by kernel_rfl) (by kernel_rfl) (fun _ _ _ h => h) (Or.inl ⟨by rfl, by rintro w' -; go_simp; try rw [HCat.out]⟩) trivial ?_
          refine wpAnyH_take (i := 16) (v := .pointer (some ⟨g, m, none⟩)) rfl (by kernel_rfl) (by kernel_rfl) (by kernel_rfl) (fun _ _ _ h => h) (Or.inl ⟨by rfl, by rintro w' -; go_simp⟩) trivial ?_
          refine wpAnyH_all (rs := [17]) (by kernel_rfl) (by simp) ?_
          intro i hi
          have h7 := List.mem_singleton.1 hi
          clear hi
          subst h7
          refine wpOp_now rfl (by rfl) ?_
          go_simp
          refine wpAnyH_done (by kernel_rfl) ?_ _
          try simp only [Exit.then]
          have hst := hown.stored m (.string ⟨(x ++ [s[k]]).toArray⟩)
          have hst2 := hst.1.alloc (.cells #[.int .u8 (s[k].toNat : Int)] 5)
          have B1 := hnx.grown hst.2 zw (fun j e => by have e' : g = j := Option.some.inj e; omega)
          go_wp2_with fail
          go_roundw
          case rel =>
            refine ⟨k + 1, _, rfl, by omega, by simp, ?_, by repeat (first | exact B1 | apply bw_drew | apply bw_alloc)⟩
            rw [HT.out, HX.out, List.length_append, HM.out]
            have h1 := hst2
            unfold wordsV at h1 ⊢
            rw [List.map_append, List.set_append_right _ _ (by rw [List.length_map, HM.out]; exact Nat.le_refl _), List.length_map, HM.out, Nat.sub_self] at h1
            rw [List.map_append]
            exact h1
          case measure => simp [intOf]; omega
        · skip
          refine wpOp_now rfl (by rfl) ?_
          go_simp
          refine wpAnyH_all (rs := [9, 14]) (by kernel_rfl) (by simp) ?_
          intro i hi
          have hi' : i = 9 ∨ i = 14 := by simpa using hi
          clear hi
          rcases hi' with rfl | rfl
          · skip
            refine YieldsIf.wpOp (S := fun w' => w' = (wr.drew.alloc (.cells #[.int .u8 (s[k].toNat : Int)] 5))) (v := .string ⟨x.toArray⟩) rfl (Or.inl ⟨by rfl, by rintro w' rfl; go_simp⟩) rfl ⟨trivial, ?_⟩
            refine wpAnyH_all (rs := [14]) (by kernel_rfl) (by simp) ?_
            intro i hi
            have h7 := List.mem_singleton.1 hi
            clear hi
            subst h7
            refine wpOp_now rfl (by rfl) ?_
            go_simp
            refine wpAnyH_take (i := 15) (v := .string ⟨(x ++ [s[k]]).toArray⟩) rfl (by kernel_rfl) (by kernel_rfl) (by kernel_rfl) (fun _ _ _ h => h) (Or.inl ⟨by rfl, by rintro w' -; go_simp; try rw [HCat.out]⟩) trivial ?_
            refine wpAnyH_take (i := 16) (v := .pointer (some ⟨g, m, none⟩)) rfl (by kernel_rfl) (by kernel_rfl) (by kernel_rfl) (fun _ _ _ h => h) (Or.inl ⟨by rfl, by rintro w' -; go_simp⟩) trivial ?_
            refine wpAnyH_all (rs := [17]) (by kernel_rfl) (by simp) ?_
            intro i hi
            have h7 := List.mem_singleton.1 hi
            clear hi
            subst h7
            refine wpOp_now rfl (by rfl) ?_
            go_simp
            refine wpAnyH_done (by kernel_rfl) ?_ _
            try simp only [Exit.then]
            have hst := hown.stored m (.string ⟨(x ++ [s[k]]).toArray⟩)
            have hst2 := hst.1.alloc (.cells #[.int .u8 (s[k].toNat : Int)] 5)
            have B1 := hnx.grown hst.2 zw (fun j e => by have e' : g = j := Option.some.inj e; omega)
            go_wp2_with fail
            go_roundw
            case rel =>
              refine ⟨k + 1, _, rfl, by omega, by simp, ?_, by repeat (first | exact B1 | apply bw_drew | apply bw_alloc)⟩
              rw [HT.out, HX.out, List.length_append, HM.out]
              have h1 := hst2
              unfold wordsV at h1 ⊢
              rw [List.map_append, List.set_append_right _ _ (by rw [List.length_map, HM.out]; exact Nat.le_refl _), List.length_map, HM.out, Nat.sub_self] at h1
              rw [List.map_append]
              exact h1
            case measure => simp [intOf]; omega
          · skip
            refine wpOp_now rfl (by rfl) ?_
            go_simp
            refine wpAnyH_all (rs := [9]) (by kernel_rfl) (by simp) ?_
            intro i hi
            have h7 := List.mem_singleton.1 hi
            clear hi
            subst h7
            refine YieldsIf.wpOp (S := fun w' => w' = (wr.drew.alloc (.cells #[.int .u8 (s[k].toNat : Int)] 5))) (v := .string ⟨x.toArray⟩) rfl (Or.inl ⟨by rfl, by rintro w' rfl; go_simp⟩) rfl ⟨trivial, ?_⟩
            refine wpAnyH_take (i := 15) (v := .string ⟨(x ++ [s[k]]).toArray⟩) rfl (by kernel_rfl) (by kernel_rfl) (by kernel_rfl) (fun _ _ _ h => h) (Or.inl ⟨by rfl, by rintro w' -; go_simp; try rw [HCat.out]⟩) trivial ?_
            refine wpAnyH_take (i := 16) (v := .pointer (some ⟨g, m, none⟩)) rfl (by kernel_rfl) (by kernel_rfl) (by kernel_rfl) (fun _ _ _ h => h) (Or.inl ⟨by rfl, by rintro w' -; go_simp⟩) trivial ?_
            refine wpAnyH_all (rs := [17]) (by kernel_rfl) (by simp) ?_
            intro i hi
            have h7 := List.mem_singleton.1 hi
            clear hi
            subst h7
            refine wpOp_now rfl (by rfl) ?_
            go_simp
            refine wpAnyH_done (by kernel_rfl) ?_ _
            try simp only [Exit.then]
            have hst := hown.stored m (.string ⟨(x ++ [s[k]]).toArray⟩)
            have hst2 := hst.1.alloc (.cells #[.int .u8 (s[k].toNat : Int)] 5)
            have B1 := hnx.grown hst.2 zw (fun j e => by have e' : g = j := Option.some.inj e; omega)
            go_wp2_with fail
            go_roundw
            case rel =>
              refine ⟨k + 1, _, rfl, by omega, by simp, ?_, by repeat (first | exact B1 | apply bw_drew | apply bw_alloc)⟩
              rw [HT.out, HX.out, List.length_append, HM.out]
              have h1 := hst2
              unfold wordsV at h1 ⊢
              rw [List.map_append, List.set_append_right _ _ (by rw [List.length_map, HM.out]; exact Nat.le_refl _), List.length_map, HM.out, Nat.sub_self] at h1
              rw [List.map_append]
              exact h1
            case measure => simp [intOf]; omega
theorem sCut_ok (s : ByteArray) (c : UInt8) (hs : s.size ≤ 1000) (w : World) :
    Calls Tryd.prog 46 #[.string s, .int .u8 c.toNat] w fun e w' => ∃ v, e = .returned v ∧ w'.ownsRow w.heap.size 9 1 v (cutL c s.data.toList).length (wordsV (cutL c s.data.toList)) ∧ Below w.heap.size w w' := sCut_big s c (by omega) w
end Go.Proofs.YtfdnadiliedikaaDoor
namespace Go.Proofs.YtfdnadiliedikaaDoor
open Go.RowKit Go.Sort

def digB (b : UInt8) : Bool := decide (48 ≤ b.toNat ∧ b.toNat ≤ 57)
/-- The point of a word. -/
def wordP (x : List UInt8) : Option P2 :=
  match x with
  | [a, b, c] => if b = 44 ∧ digB a = true ∧ digB c = true then some (((a.toNat : Int) - 48), ((c.toNat : Int) - 48)) else none
  | _ => none
/-- The points of words, up to one that is none. -/
def wordsP : List (List UInt8) → Option (List P2)
  | [] => some []
  | x :: xs => match wordP x with
    | none => none
    | some p => (wordsP xs).map (p :: ·)
theorem wordsP_snoc (xs : List (List UInt8)) (x : List UInt8) : wordsP (xs ++ [x]) = match wordsP xs with
    | none => none
    | some l => (wordP x).map (fun p => l ++ [p]) := by
  induction xs with
  | nil => cases h : wordP x <;> simp [wordsP, h]
  | cons y ys ih =>
    simp only [List.cons_append, wordsP]
    cases h : wordP y with
    | none => rfl
    | some p =>
      simp only [ih]
      cases wordsP ys with
      | none => rfl
      | some l => cases wordP x <;> rfl
theorem wordsP_none {xs : List (List UInt8)} {k : Nat} (h : wordsP (xs.take k) = none) : wordsP xs = none := by
  induction xs generalizing k with
  | nil => simpa using h
  | cons y ys ih =>
    cases k with
    | zero => simp [wordsP] at h
    | succ k =>
      simp only [List.take_succ_cons, wordsP] at h ⊢
      cases hy : wordP y with
      | none => rfl
      | some p =>
        rw [hy] at h
        simp only [Option.map_eq_none_iff] at h ⊢
        exact ih h
theorem wordsP_len {xs : List (List UInt8)} {l : List P2} (h : wordsP xs = some l) : l.length = xs.length := by
  induction xs generalizing l with
  | nil => simp [wordsP] at h; subst h; rfl
  | cons y ys ih =>
    simp only [wordsP] at h
    cases hy : wordP y with
    | none => rw [hy] at h; cases h
    | some p =>
      rw [hy] at h
      simp only [Option.map_eq_some_iff] at h
      obtain ⟨l', h1, rfl⟩ := h
      simp [ih h1]
theorem own_b {W W' : World} {base : Nat} {e : TypeId} {size n : Nat} {v : Value} {xs : List Value} (h : W.ownsRow base e size v n xs) (J : Below W.heap.size W W') : W'.ownsRow base e size v n xs :=
  h.kept (row := none) ⟨J.os, J.tape, J.output, J.size, fun j hj _ => J.block j hj⟩ (Classical.em _)
theorem wordP_3 {a b c : UInt8} (h : b = 44 ∧ digB a = true ∧ digB c = true) : wordP [a, b, c] = some (((a.toNat : Int) - 48), ((c.toNat : Int) - 48)) := by unfold wordP; simp only; rw [if_pos h]
theorem wordP_no {x : List UInt8} (h : x.length ≠ 3) : wordP x = none := by
  unfold wordP
  split
  · simp at h
  · rfl
theorem wordP_bad {a b c : UInt8} (h : ¬ (b = 44 ∧ digB a = true ∧ digB c = true)) : wordP [a, b, c] = none := by unfold wordP; simp only; rw [if_neg h]
theorem ptHead (l : List P2) (x y : Int) : (ptCells l ++ [Value.int .i64 x, Value.int .i64 y])[0]? = some (.int .i64 ((l ++ [(x, y)]).headD (0, 0)).1) := by
  cases l <;> simp [ptCells]
theorem cell_of_heap {W W' : World} {g j : Nat} (h : W'.heap[g]? = W.heap[g]?) : W'.cell? ⟨g, j, none⟩ = W.cell? ⟨g, j, none⟩ := by
  unfold World.cell?; simp only [h]
end Go.Proofs.YtfdnadiliedikaaDoor
namespace Go.Proofs.YtfdnadiliedikaaDoor
open Go.RowKit Go.Sort

/-- What the library's functions read: a table, two errors, one number. -/
structure Lib4 (w : World) : Prop where
  tab : Tab w
  most : ∃ m, w.cell? ⟨0, 0, none⟩ = some (.int .i64 m)
  syn : ∃ tp p, w.var? Tryd.prog "strconv.ErrSyntax" = some #[.iface tp p]
  rng : ∃ tp p, w.var? Tryd.prog "strconv.ErrRange" = some #[.iface tp p]
theorem gSyn : Tryd.prog.globalNamed "strconv.ErrSyntax" = some 2 := by kernel_rfl
theorem gRng : Tryd.prog.globalNamed "strconv.ErrRange" = some 3 := by kernel_rfl
theorem var_lt {P : Program} {w : World} {n : String} {g : Nat} {cs : Array Value} (hg : P.globalNamed n = some g) (h : w.var? P n = some cs) : g < w.heap.size := by
  unfold World.var? at h
  rw [hg] at h
  rcases Nat.lt_or_ge g w.heap.size with h' | h'
  · exact h'
  · simp [Array.getElem?_eq_none h'] at h
theorem Lib4.below {w w' : World} (h : Lib4 w) (J : Below w.heap.size w w') : Lib4 w' := by
  refine ⟨h.tab.below J, ?_, ?_, ?_⟩
  · obtain ⟨m, hm⟩ := h.most
    exact ⟨m, (J.cell (World.block_lt_of_cell? _ _ hm)).trans hm⟩
  · obtain ⟨tp, p, hv⟩ := h.syn
    exact ⟨tp, p, var?_below J gSyn (var_lt gSyn hv) hv⟩
  · obtain ⟨tp, p, hv⟩ := h.rng
    exact ⟨tp, p, var?_below J gRng (var_lt gRng hv) hv⟩
/-- The place of a text. -/
def plcP (x : List UInt8) : Option Int :=
  match x with
  | [a] => if digB a = true then some ((a.toNat : Int) - 48) else none
  | _ => none
theorem digB_cases {a : UInt8} (h : digB a = true) : ∃ k : Nat, k < 10 ∧ a = UInt8.ofNat (48 + k) := by
  have h1 : 48 ≤ a.toNat ∧ a.toNat ≤ 57 := by unfold digB at h; simpa using h
  refine ⟨a.toNat - 48, by omega, ?_⟩
  rw [show 48 + (a.toNat - 48) = a.toNat by omega]
  simp
theorem atoi_dig : ∀ k : Nat, k < 10 → Lib.atoiAll [UInt8.ofNat (48 + k)] = .ok (k : Int) := by
  intro k hk
  have : k = 0 ∨ k = 1 ∨ k = 2 ∨ k = 3 ∨ k = 4 ∨ k = 5 ∨ k = 6 ∨ k = 7 ∨ k = 8 ∨ k = 9 := by omega
  rcases this with rfl | rfl | rfl | rfl | rfl | rfl | rfl | rfl | rfl | rfl <;> rfl
theorem dig_of : ∀ k : Nat, k < 10 → digB (UInt8.ofNat (48 + k)) = true ∧ ((UInt8.ofNat (48 + k)).toNat : Int) - 48 = k := by
  intro k hk
  have : k = 0 ∨ k = 1 ∨ k = 2 ∨ k = 3 ∨ k = 4 ∨ k = 5 ∨ k = 6 ∨ k = 7 ∨ k = 8 ∨ k = 9 := by omega
  rcases this with rfl | rfl | rfl | rfl | rfl | rfl | rfl | rfl | rfl | rfl <;> exact ⟨rfl, rfl⟩
theorem plcP_some {x : List UInt8} {v : Int} (h : plcP x = some v) : ∃ k : Nat, k < 10 ∧ v = k ∧ x = [UInt8.ofNat (48 + k)] := by
  unfold plcP at h
  split at h
  · rename_i a
    split at h
    · rename_i hd
      obtain ⟨k, hk, rfl⟩ := digB_cases hd
      refine ⟨k, hk, ?_, rfl⟩
      rw [(dig_of k hk).2] at h
      exact (Option.some.inj h).symm
    · cases h
  · cases h
theorem plcP_dig {k : Nat} (hk : k < 10) : plcP [UInt8.ofNat (48 + k)] = some (k : Int) := by
  show (if digB (UInt8.ofNat (48 + k)) = true then some (((UInt8.ofNat (48 + k)).toNat : Int) - 48) else none) = _
  rw [if_pos (dig_of k hk).1, (dig_of k hk).2]
theorem plcP_none {x : List UInt8} (h : ∀ k : Nat, k < 10 → x ≠ [UInt8.ofNat (48 + k)]) : plcP x = none := by
  cases e : plcP x with
  | none => rfl
  | some v =>
    obtain ⟨k, hk, _, hx⟩ := plcP_some e
    exact absurd hx (h k hk)
theorem ba_ne {a b : ByteArray} (h : a ≠ b) : (a.toList == b.toList) = false := by
  cases e : a.toList == b.toList with
  | false => rfl
  | true =>
    have e' := eq_of_beq e
    rw [Lib.toList_data, Lib.toList_data] at e'
    exact absurd (ByteArray.ext (Array.ext' e')) h
set_option maxRecDepth 100000 in
set_option maxHeartbeats 1000000 in
theorem placeRead_any (s : ByteArray) (hs : s.size ≤ 1000000) (w : World) (hL : Lib4 w) :
    Calls Tryd.prog 78 #[.string s] w fun e w' => e = .returned (.tuple #[.int .i64 ((plcP s.data.toList).getD 0), .bool (plcP s.data.toList).isSome]) ∧ Below w.heap.size w w' := by
  cases ha : Lib.atoiAll s.data.toList with
  | «syntax» =>
    have e1 : Hid (plcP s.data.toList = none) := plcP_none (fun k hk e => by rw [e, atoi_dig k hk] at ha; cases ha)
    obtain ⟨tp, p, hv⟩ := hL.syn
    have hA := shelf_strconv_Atoi_syntax_var s (by omega) ha tp p w hv
    clear ha
    go_enter Tryd.func78, Tryd.ntmps78
    go_wp2_with (go_at_call 84; refine hA.mono ?_; rintro e w1 ⟨N, rfl, _, _, J⟩)
    go_ret2
    exact ⟨by rw [e1.out]; rfl, J⟩
  | range =>
    have e1 : Hid (plcP s.data.toList = none) := plcP_none (fun k hk e => by rw [e, atoi_dig k hk] at ha; cases ha)
    obtain ⟨tp, p, hv⟩ := hL.rng
    have hA := shelf_strconv_Atoi_range_var s (by omega) ha tp p w hv
    clear ha
    go_enter Tryd.func78, Tryd.ntmps78
    go_wp2_with (go_at_call 84; refine hA.mono ?_; rintro e w1 ⟨N, rfl, _, _, J⟩)
    go_ret2
    exact ⟨by rw [e1.out]; rfl, J⟩
  | ok v =>
    have hA := shelf_strconv_Atoi_ok s (by omega) v ha w
    have hA' : Calls Tryd.prog 84 #[.string s] w fun e w' => e = .returned (.tuple #[.int .i64 v, .nilIface]) ∧ Below w.heap.size w w' := by
      refine hA.mono ?_
      rintro e w1 ⟨rfl, h⟩
      refine ⟨rfl, ?_⟩
      rcases h with rfl | ⟨t, rfl⟩
      · exact bw_refl _
      · exact Lib.bytesWorld_below _ _ _
    clear hA
    have hP := fun V => place_any v V
    cases hp : plB v
    · rw [hp] at hP
      have e1 : Hid (plcP s.data.toList = none) := plcP_none (fun k hk e => by
        rw [e, atoi_dig k hk] at ha
        have hv : (k : Int) = v := by injection ha
        rw [← hv] at hp
        rw [(plB_iff _).2 ⟨by omega, by omega⟩] at hp
        cases hp)
      clear ha
      go_enter Tryd.func78, Tryd.ntmps78
      go_wp2_with first
        | (go_at_call 84; (with_reducible refine hA'.mono ?_); rintro e w1 ⟨rfl, J⟩)
        | (go_at_call 68; (with_reducible refine (hP _).mono ?_); rintro e w2 ⟨rfl, rfl⟩)
      go_ret2
      exact ⟨by rw [e1.out]; rfl, J⟩
    · rw [hp] at hP
      obtain ⟨hv0, hv1⟩ := (plB_iff v).1 hp
      obtain ⟨k, rfl⟩ := Int.eq_ofNat_of_zero_le hv0
      have hk : k < 10 := by omega
      have hI : ∀ V, Tab V → Calls Tryd.prog 56 #[.int .i64 (k : Int)] V fun e w' => e = .returned (.string (ByteArray.mk #[UInt8.ofNat (48 + k)])) ∧ Below V.heap.size V w' := fun V hT => by
        have := itoa_any (k : Int) V (by omega) (by omega) hT
        rwa [Int.toNat_natCast, dec_lt k hk] at this
      have hT := hL.tab
      by_cases hx : s = ByteArray.mk #[UInt8.ofNat (48 + k)]
      · have e1 : Hid (plcP s.data.toList = some (k : Int)) := by change _ = _; rw [hx]; exact plcP_dig hk
        clear ha hp
        obtain ⟨d, hd⟩ : ∃ d, d = ByteArray.mk #[UInt8.ofNat (48 + k)] := ⟨_, rfl⟩
        rw [← hd] at hI hx
        clear hd
        subst hx
        go_enter Tryd.func78, Tryd.ntmps78
        go_wp2_with first
          | (go_at_call 84; (with_reducible refine hA'.mono ?_); rintro e w1 ⟨rfl, J⟩)
          | (go_at_call 68; (with_reducible refine (hP _).mono ?_); rintro e w2 ⟨rfl, hq⟩; rw [hq]; clear hq w2)
          | (go_at_call 56; (with_reducible refine (hI w1 (hT.below J)).mono ?_); rintro e w3 ⟨rfl, J3⟩)
        go_ret2
        exact ⟨by rw [e1.out]; rfl, bw_trans J J3⟩
      · have e1 : Hid (plcP s.data.toList = none) := plcP_none (fun j hj e => by
          apply hx
          rw [e, atoi_dig j hj] at ha
          have hv : (j : Int) = (k : Int) := by injection ha
          obtain rfl : j = k := by omega
          apply ByteArray.ext
          apply Array.ext'
          rw [e])
        clear ha hp
        obtain ⟨d, hd⟩ : ∃ d, d = ByteArray.mk #[UInt8.ofNat (48 + k)] := ⟨_, rfl⟩
        rw [← hd] at hI hx
        clear hd
        have x1 : (d.toList == s.toList) = false := ba_ne (Ne.symm hx)
        clear hx
        go_enter Tryd.func78, Tryd.ntmps78
        go_wp2_with first
          | (go_at_call 84; (with_reducible refine hA'.mono ?_); rintro e w1 ⟨rfl, J⟩)
          | (go_at_call 68; (with_reducible refine (hP _).mono ?_); rintro e w2 ⟨rfl, hq⟩; rw [hq]; clear hq w2)
          | (go_at_call 56; (with_reducible refine (hI w1 (hT.below J)).mono ?_); rintro e w3 ⟨rfl, J3⟩)
        go_ret2
        exact ⟨by rw [e1.out]; rfl, bw_trans J J3⟩
end Go.Proofs.YtfdnadiliedikaaDoor
namespace Go.Proofs.YtfdnadiliedikaaDoor
open Go.RowKit Go.Sort

def placesP (a u : List UInt8) : Option P2 :=
  match plcP a, plcP u with
  | some x, some y => some (x, y)
  | _, _ => none
theorem cut_nil (c : UInt8) : Lib.cut [] [c] = ([], [], false) := by
  unfold Lib.cut
  rw [if_neg (by simp [Lib.index])]
theorem cut_here (c : UInt8) (r : List UInt8) : Lib.cut (c :: r) [c] = ([], r, true) := by
  have h : Lib.index (c :: r) [c] = 0 := by rw [Lib.index, if_pos (by simp [List.isPrefixOf])]
  unfold Lib.cut
  rw [h]
  rfl
theorem cut_on (b c : UInt8) (r : List UInt8) (h : b ≠ c) : (Lib.cut (b :: r) [c]).1 = b :: (Lib.cut r [c]).1 ∧ (Lib.cut (b :: r) [c]).2.1 = (Lib.cut r [c]).2.1 := by
  have hge := Lib.index_ge r [c]
  by_cases hm : Lib.index r [c] = -1
  · have e : Lib.index (b :: r) [c] = -1 := by rw [index_one_miss h, hm]; rfl
    unfold Lib.cut
    rw [e, hm, if_neg (by decide), if_neg (by decide)]
    exact ⟨rfl, rfl⟩
  · obtain ⟨k, hk⟩ : ∃ k : Nat, Lib.index r [c] = k := ⟨(Lib.index r [c]).toNat, by omega⟩
    have e : Lib.index (b :: r) [c] = ((k + 1 : Nat) : Int) := by rw [index_one_miss h, hk, if_neg (by simp)]; simp
    unfold Lib.cut
    rw [e, hk, if_pos (by omega), if_pos (by omega), Int.toNat_natCast, Int.toNat_natCast]
    exact ⟨rfl, rfl⟩
theorem none_of {α : Type} {o : Option α} (h : o.isSome = false) : o = none := by cases o with | none => rfl | some _ => cases h
theorem places_none (u : List UInt8) : placesP [] u = none := rfl
theorem places_left (a : List UInt8) (h : plcP a = none) (u : List UInt8) : placesP a u = none := by unfold placesP; rw [h]
theorem places_right (a : List UInt8) (u : List UInt8) (h : plcP u = none) : placesP a u = none := by unfold placesP; rw [h]; cases plcP a <;> rfl
theorem plc_one (a : UInt8) : plcP [a] = if digB a = true then some ((a.toNat : Int) - 48) else none := rfl
theorem places_one (a c : UInt8) : placesP [a] [c] = if digB a = true ∧ digB c = true then some (((a.toNat : Int) - 48), ((c.toNat : Int) - 48)) else none := by
  unfold placesP
  rw [plc_one, plc_one]
  cases h1 : digB a <;> cases h2 : digB c <;> simp
theorem ptP_word (x : List UInt8) : placesP (Lib.cut x [44]).1 (Lib.cut x [44]).2.1 = wordP x := by
  match x with
  | [] => rw [cut_nil]; rfl
  | a :: r =>
    by_cases ha : a = 44
    · subst ha
      rw [cut_here]
      show none = wordP (44 :: r)
      match r with
      | [] => rfl
      | [b] => rfl
      | [b, c] =>
        show none = (if b = 44 ∧ digB 44 = true ∧ digB c = true then _ else none)
        rw [if_neg (by rintro ⟨_, h, _⟩; revert h; decide)]
      | b :: c :: d :: r' => rfl
    · obtain ⟨e1, e2⟩ := cut_on a 44 r ha
      rw [e1, e2]
      match r with
      | [] =>
        rw [cut_nil]
        exact places_right _ _ rfl
      | b :: r' =>
        by_cases hb : b = 44
        · subst hb
          rw [cut_here]
          match r' with
          | [] => exact places_right _ _ rfl
          | [c] =>
            show placesP [a] [c] = (if (44 : UInt8) = 44 ∧ digB a = true ∧ digB c = true then some (((a.toNat : Int) - 48), ((c.toNat : Int) - 48)) else none)
            rw [places_one]
            cases h1 : digB a <;> cases h2 : digB c <;> simp
          | c :: d :: r'' => exact places_right _ _ rfl
        · obtain ⟨e3, e4⟩ := cut_on b 44 r' hb
          rw [e3]
          rw [places_left (a :: b :: _) rfl]
          match r' with
          | [] => rfl
          | [c] =>
            show none = (if b = 44 ∧ digB a = true ∧ digB c = true then some (((a.toNat : Int) - 48), ((c.toNat : Int) - 48)) else none)
            rw [if_neg (fun h => hb h.1)]
          | c :: d :: r'' => rfl
def ptV (o : Option P2) : P2 := o.getD (0, 0)
set_option maxRecDepth 100000 in
set_option maxHeartbeats 1000000 in
theorem placesRead_any (a u : ByteArray) (ha : a.size ≤ 1000000) (hu : u.size ≤ 1000000) (w : World) (hL : Lib4 w) :
    Calls Tryd.prog 66 #[.string a, .string u] w fun e w' => e = .returned (.tuple #[.agg #[.int .i64 (ptV (placesP a.data.toList u.data.toList)).1, .int .i64 (ptV (placesP a.data.toList u.data.toList)).2], .bool (placesP a.data.toList u.data.toList).isSome]) ∧ Below w.heap.size w w' := by
  have h1 := fun V hV => placeRead_any a ha V hV
  have h2 := fun V hV => placeRead_any u hu V hV
  have E1 : (plcP a.data.toList).isSome = false → placesP a.data.toList u.data.toList = none := fun h => places_left _ (none_of h) _
  have E2 : (plcP u.data.toList).isSome = false → placesP a.data.toList u.data.toList = none := fun h => places_right _ _ (none_of h)
  have E3 : (plcP a.data.toList).isSome = true → (plcP u.data.toList).isSome = true → placesP a.data.toList u.data.toList = some ((plcP a.data.toList).getD 0, (plcP u.data.toList).getD 0) := fun h h' => by
    obtain ⟨x, hx⟩ := Option.isSome_iff_exists.1 h
    obtain ⟨y, hy⟩ := Option.isSome_iff_exists.1 h'
    unfold placesP
    rw [hx, hy]
    rfl
  generalize (plcP a.data.toList).getD 0 = x at *
  generalize (plcP u.data.toList).getD 0 = y at *
  generalize (plcP a.data.toList).isSome = b1 at *
  generalize (plcP u.data.toList).isSome = b2 at *
  generalize placesP a.data.toList u.data.toList = o at *
  obtain ⟨W, hW, BW, T⟩ := boxes1 w (.cells #[.int .i64 0, .int .i64 0] 42)
  have h1 := h1 W (hL.below BW)
  replace hL := hL.below BW
  cases b1 with
  | false =>
    have E : Hid (o = none) := E1 rfl
    clear E1 E2 E3
    go_enter Tryd.func66, Tryd.ntmps66
    go_upto_region 1 with fail
    rw [← hW]
    clear hW
    go_wp2_with first
      | (go_at_call 78; (with_reducible refine h1.mono ?_); clear h1; rintro e w1 ⟨rfl, J⟩; replace T := keep J T; replace BW := bw_trans BW J)
      | (go_at_call 78; (with_reducible refine (h2 _ (hL.below J)).mono ?_); rintro e w2 ⟨rfl, J2⟩; replace T := keep J2 T; replace BW := bw_trans BW J2; obtain ⟨q0, q1, qf0, qf1⟩ := blk2 T)
    exact bodyPost_ret (v := .tuple #[.agg #[.int .i64 0, .int .i64 0], .bool false]) (by simp [results, Tryd.results66, go_sem, q0, q1]) rfl ⟨by rw [E.out]; rfl, by repeat (first | exact BW | apply bw_alloc | apply bw_drew | refine bw_set ?_ (by first | exact Nat.le_refl _ | (dsimp only; omega)) _)⟩
  | true =>
    cases b2 with
    | false =>
      have E : Hid (o = none) := E2 rfl
      clear E1 E2 E3
      go_enter Tryd.func66, Tryd.ntmps66
      go_upto_region 1 with fail
      rw [← hW]
      clear hW
      go_wp2_with first
        | (go_at_call 78; (with_reducible refine h1.mono ?_); clear h1; rintro e w1 ⟨rfl, J⟩; replace T := keep J T; replace BW := bw_trans BW J)
        | (go_at_call 78; (with_reducible refine (h2 _ (hL.below J)).mono ?_); rintro e w2 ⟨rfl, J2⟩; replace T := keep J2 T; replace BW := bw_trans BW J2; obtain ⟨q0, q1, qf0, qf1⟩ := blk2 T)
      exact bodyPost_ret (v := .tuple #[.agg #[.int .i64 0, .int .i64 0], .bool false]) (by simp [results, Tryd.results66, go_sem, q0, q1]) rfl ⟨by rw [E.out]; rfl, by repeat (first | exact BW | apply bw_alloc | apply bw_drew | refine bw_set ?_ (by first | exact Nat.le_refl _ | (dsimp only; omega)) _)⟩
    | true =>
      have E : Hid (o = some (x, y)) := E3 rfl rfl
      clear E1 E2 E3
      go_enter Tryd.func66, Tryd.ntmps66
      go_upto_region 1 with fail
      rw [← hW]
      clear hW
      go_wp2_with first
        | (go_at_call 78; (with_reducible refine h1.mono ?_); clear h1; rintro e w1 ⟨rfl, J⟩; replace T := keep J T; replace BW := bw_trans BW J)
        | (go_at_call 78; (with_reducible refine (h2 _ (hL.below J)).mono ?_); rintro e w2 ⟨rfl, J2⟩; replace T := keep J2 T; replace BW := bw_trans BW J2; obtain ⟨q0, q1, qf0, qf1⟩ := blk2 T)
      exact bodyPost_ret (v := .tuple #[.agg #[.int .i64 x, .int .i64 y], .bool true]) (by simp [results, Tryd.results66, go_sem, q0, q1]) rfl ⟨by rw [E.out]; rfl, by repeat (first | exact BW | apply bw_alloc | apply bw_drew | refine bw_set ?_ (by first | exact Nat.le_refl _ | (dsimp only; omega)) _)⟩
end Go.Proofs.YtfdnadiliedikaaDoor
namespace Go.Proofs.YtfdnadiliedikaaDoor
open Go.RowKit

theorem digB_of {k : Nat} (hk : k < 10) : digB (UInt8.ofNat (48 + k)) = true ∧ ((UInt8.ofNat (48 + k)).toNat : Int) - 48 = k := dig_of k hk
/-- The turn of a line, with its end. -/
def lineP (k : Nat) (y : List UInt8) : Option P2 :=
  match y with
  | [a, b, c, d, e, f, g, h, i] => if [a, b] = cwL k ∧ c = 32 ∧ d = 88 ∧ digB e = true ∧ f = 32 ∧ g = 89 ∧ digB h = true ∧ i = 10 then some (((e.toNat : Int) - 48), ((h.toNat : Int) - 48)) else none
  | _ => none
theorem lineP_back {k : Nat} {p : P2} (h : okP p = true) : lineP k (lnL k p) = some p := by
  rw [lnL_9 h]
  obtain ⟨⟨h0, h1⟩, h2, h3⟩ := (okP_iff p).1 h
  obtain ⟨d1, e1⟩ := digB_of (k := p.1.toNat) (by omega)
  obtain ⟨d2, e2⟩ := digB_of (k := p.2.toNat) (by omega)
  have hp : (((UInt8.ofNat (48 + p.1.toNat)).toNat : Int) - 48, ((UInt8.ofNat (48 + p.2.toNat)).toNat : Int) - 48) = p := Prod.ext (by rw [e1]; simp only; omega) (by rw [e2]; simp only; omega)
  unfold cwL
  by_cases hk : k = 0
  · rw [if_pos hk]
    simp only [List.cons_append, List.nil_append, lineP]
    rw [if_pos ⟨by unfold cwL; rw [if_pos hk], trivial, trivial, d1, trivial, trivial, d2, trivial⟩, hp]
  · rw [if_neg hk]
    simp only [List.cons_append, List.nil_append, lineP]
    rw [if_pos ⟨by unfold cwL; rw [if_neg hk], trivial, trivial, d1, trivial, trivial, d2, trivial⟩, hp]
theorem lineP_only {k : Nat} {y : List UInt8} {p : P2} (h : lineP k y = some p) : okP p = true ∧ y = lnL k p := by
  unfold lineP at h
  split at h
  · rename_i a b c d e f g h' i
    split at h
    · rename_i hc
      obtain ⟨h1, rfl, rfl, h4, rfl, rfl, h7, rfl⟩ := hc
      obtain ⟨m, hm, rfl⟩ := digB_cases h4
      obtain ⟨n, hn, rfl⟩ := digB_cases h7
      cases h
      have e1 := (digB_of hm).2
      have e2 := (digB_of hn).2
      rw [e1, e2]
      have hok : okP ((m : Int), (n : Int)) = true := by rw [okP_iff]; simp only; omega
      refine ⟨hok, ?_⟩
      rw [lnL_9 hok, ← h1]
      simp
    · cases h
  · cases h
/-- The turns of lines, from a place on. -/
def turnsP : Nat → List (List UInt8) → Option (List P2)
  | _, [] => some []
  | k, y :: r => match lineP k y with
    | none => none
    | some p => (turnsP (k + 1) r).map (p :: ·)
theorem turnsP_snoc (xs : List (List UInt8)) (x : List UInt8) : ∀ k, turnsP k (xs ++ [x]) = match turnsP k xs with
    | none => none
    | some l => (lineP (k + xs.length) x).map (fun p => l ++ [p]) := by
  induction xs with
  | nil => intro k; cases h : lineP k x <;> simp [turnsP, h]
  | cons y ys ih =>
    intro k
    simp only [List.cons_append, turnsP, List.length_cons]
    cases h : lineP k y with
    | none => rfl
    | some p =>
      have e : k + (ys.length + 1) = k + 1 + ys.length := by omega
      simp only [ih, e]
      cases turnsP (k + 1) ys with
      | none => rfl
      | some l => cases lineP (k + 1 + ys.length) x <;> rfl
theorem turnsP_none {xs : List (List UInt8)} : ∀ {k j : Nat}, turnsP k (xs.take j) = none → turnsP k xs = none := by
  induction xs with
  | nil => intro k j h; simpa using h
  | cons y ys ih =>
    intro k j h
    cases j with
    | zero => simp [turnsP] at h
    | succ j =>
      simp only [List.take_succ_cons, turnsP] at h ⊢
      cases hy : lineP k y with
      | none => rfl
      | some p =>
        rw [hy] at h
        simp only [Option.map_eq_none_iff] at h ⊢
        exact ih h
theorem turnsP_len {xs : List (List UInt8)} : ∀ {k : Nat} {l : List P2}, turnsP k xs = some l → l.length = xs.length := by
  induction xs with
  | nil => intro k l h; simp [turnsP] at h; subst h; rfl
  | cons y ys ih =>
    intro k l h
    simp only [turnsP] at h
    cases hy : lineP k y with
    | none => rw [hy] at h; cases h
    | some p =>
      rw [hy] at h
      simp only [Option.map_eq_some_iff] at h
      obtain ⟨q, hq, rfl⟩ := h
      simp [ih hq]
/-- Lines, each with its end; what is behind the last end is a line, if it is anything. -/
def lnsF : Nat → List UInt8 → List (List UInt8)
  | 0, _ => []
  | n + 1, z => if z = [] then [] else if (10 : UInt8) ∈ z then (z.take (z.idxOf 10 + 1)) :: lnsF n (z.drop (z.idxOf 10 + 1)) else [z]
def lnsW (z : List UInt8) : List (List UInt8) := lnsF z.length z
theorem idx_word {x r : List UInt8} (h : (10 : UInt8) ∉ x) : (x ++ 10 :: r).idxOf 10 = x.length := by
  rw [List.idxOf_append, if_neg h]; simp
theorem lnsF_more : ∀ (n m : Nat) (z : List UInt8), z.length ≤ n → z.length ≤ m → lnsF n z = lnsF m z := by
  intro n
  induction n with
  | zero =>
    intro m z h _
    obtain rfl := List.eq_nil_of_length_eq_zero (Nat.le_zero.1 h)
    cases m <;> simp [lnsF]
  | succ n ih =>
    intro m z h hm
    cases m with
    | zero =>
      obtain rfl := List.eq_nil_of_length_eq_zero (Nat.le_zero.1 hm)
      simp [lnsF]
    | succ m =>
      simp only [lnsF]
      by_cases hz : z = []
      · rw [if_pos hz, if_pos hz]
      · rw [if_neg hz, if_neg hz]
        by_cases hx : (10 : UInt8) ∈ z
        · rw [if_pos hx, if_pos hx, ih m _ (by rw [List.length_drop]; omega) (by rw [List.length_drop]; omega)]
        · rw [if_neg hx, if_neg hx]
theorem lnsW_nil : lnsW [] = [] := rfl
theorem lnsW_word {x r : List UInt8} (h : (10 : UInt8) ∉ x) : lnsW (x ++ 10 :: r) = (x ++ [10]) :: lnsW r := by
  have hl : (x ++ 10 :: r).length = (x.length + r.length) + 1 := by simp; omega
  unfold lnsW
  rw [hl]
  simp only [lnsF]
  rw [if_neg (by simp), if_pos (by simp), idx_word h]
  have e1 : (x ++ 10 :: r).take (x.length + 1) = x ++ [10] := by
    have := List.take_left (l₁ := x ++ [10]) (l₂ := r)
    simpa using this
  have e2 : (x ++ 10 :: r).drop (x.length + 1) = r := by
    simp
  rw [e1, e2, lnsF_more _ r.length r (by omega) (Nat.le_refl _)]
theorem lnsW_free {x : List UInt8} (h : (10 : UInt8) ∉ x) (hx : x ≠ []) : lnsW x = [x] := by
  unfold lnsW
  obtain ⟨n, hn⟩ : ∃ n, x.length = n + 1 := ⟨x.length - 1, by have := List.length_pos_iff.2 hx; omega⟩
  rw [hn]
  simp only [lnsF]
  rw [if_neg hx, if_neg h]
theorem lnsW_len : ∀ (n : Nat) (z : List UInt8), (lnsF n z).length ≤ z.length := by
  intro n
  induction n with
  | zero => intro z; simp [lnsF]
  | succ n ih =>
    intro z
    simp only [lnsF]
    by_cases hz : z = []
    · rw [if_pos hz]; simp
    · rw [if_neg hz]
      have hp := List.length_pos_iff.2 hz
      by_cases hx : (10 : UInt8) ∈ z
      · rw [if_pos hx]
        have h1 := ih (z.drop (z.idxOf 10 + 1))
        have h2 := List.idxOf_lt_length_of_mem hx
        rw [List.length_drop] at h1
        simp only [List.length_cons]
        omega
      · rw [if_neg hx]; simp; omega
theorem no10_ln {k : Nat} {p : P2} (h : okP p = true) : ∃ x, lnL k p = x ++ [10] ∧ (10 : UInt8) ∉ x ∧ x.length = 8 := by
  obtain ⟨⟨h0, h1⟩, h2, h3⟩ := (okP_iff p).1 h
  refine ⟨cwL k ++ [32, 88, UInt8.ofNat (48 + p.1.toNat), 32, 89, UInt8.ofNat (48 + p.2.toNat)], ?_, ?_, ?_⟩
  · rw [lnL_9 h]; simp
  · have e : ∀ k : Nat, k < 10 → (10 : UInt8) ≠ UInt8.ofNat (48 + k) := by decide
    intro hm
    rcases List.mem_append.1 hm with hm | hm
    · unfold cwL at hm
      split at hm <;> exact absurd hm (by decide)
    · simp only [List.mem_cons, List.not_mem_nil, or_false] at hm
      rcases hm with hm | hm | hm | hm | hm | hm
      · exact absurd hm (by decide)
      · exact absurd hm (by decide)
      · exact e _ (by omega) hm
      · exact absurd hm (by decide)
      · exact absurd hm (by decide)
      · exact e _ (by omega) hm
  · rw [List.length_append, cwL_len]; rfl
theorem turnsP_back : ∀ {t : List P2} {k : Nat}, (∀ p ∈ t, okP p = true) → turnsP k (lnsW (cdF k t)) = some t := by
  intro t
  induction t with
  | nil => intro k _; rfl
  | cons p r ih =>
    intro k h
    obtain ⟨x, e, hx, _⟩ := no10_ln (k := k) (h p List.mem_cons_self)
    simp only [cdF]
    have e2 : lnL k p ++ cdF (k + 1) r = x ++ 10 :: cdF (k + 1) r := by rw [e]; simp
    rw [e2, lnsW_word hx, ← e]
    simp only [turnsP]
    rw [lineP_back (h p List.mem_cons_self), ih (fun q hq => h q (List.mem_cons_of_mem _ hq))]
    rfl
theorem cut_first' {z : List UInt8} (h : (10 : UInt8) ∈ z) : ∃ x r, z = x ++ 10 :: r ∧ (10 : UInt8) ∉ x := by
  induction z with
  | nil => cases h
  | cons b z ih =>
    by_cases hb : b = 10
    · exact ⟨[], z, by rw [hb]; rfl, by simp⟩
    · obtain ⟨x, r, e, hx⟩ := ih (by rcases List.mem_cons.1 h with e | e; exact absurd e.symm hb; exact e)
      exact ⟨b :: x, r, by rw [e]; rfl, by simp only [List.mem_cons, not_or]; exact ⟨fun e => hb e.symm, hx⟩⟩
theorem turnsP_only : ∀ (n : Nat) {z : List UInt8} {k : Nat} {t : List P2}, z.length ≤ n → turnsP k (lnsW z) = some t → (∀ p ∈ t, okP p = true) ∧ z = cdF k t := by
  intro n
  induction n with
  | zero =>
    intro z k t hz h
    obtain rfl := List.eq_nil_of_length_eq_zero (Nat.le_zero.1 hz)
    rw [lnsW_nil] at h
    cases h
    exact ⟨fun p hp => (by cases hp), rfl⟩
  | succ n ih =>
    intro z k t hz h
    by_cases hm : (10 : UInt8) ∈ z
    · obtain ⟨x, r, rfl, hx⟩ : ∃ x r, z = x ++ 10 :: r ∧ (10 : UInt8) ∉ x := cut_first' hm
      rw [lnsW_word hx] at h
      simp only [turnsP] at h
      cases hy : lineP k (x ++ [10]) with
      | none => rw [hy] at h; cases h
      | some p =>
        rw [hy] at h
        simp only [Option.map_eq_some_iff] at h
        obtain ⟨q, hq, rfl⟩ := h
        obtain ⟨h1, h2⟩ := lineP_only hy
        obtain ⟨h3, h4⟩ := ih (by simp only [List.length_append, List.length_cons] at hz; omega) hq
        refine ⟨fun y hy => ?_, ?_⟩
        · rcases List.mem_cons.1 hy with rfl | hy
          · exact h1
          · exact h3 y hy
        · simp only [cdF]
          rw [← h2, ← h4]; simp
    · by_cases e : z = []
      · subst e
        rw [lnsW_nil] at h
        cases h
        exact ⟨fun p hp => (by cases hp), rfl⟩
      · rw [lnsW_free hm e] at h
        simp only [turnsP] at h
        cases hy : lineP k z with
        | none => rw [hy] at h; cases h
        | some p =>
          obtain ⟨h1, h2⟩ := lineP_only hy
          obtain ⟨x, e3, _, _⟩ := no10_ln (k := k) h1
          exact absurd (by rw [h2, e3]; simp) hm
/-- The path of a text. -/
def readC (z : List UInt8) : Option (List P2) :=
  if z.length ≤ 4000 then match turnsP 0 (lnsW z) with
    | none => none
    | some t => if stayV t = true ∧ turnsV (stayR t) = t then some (stayR t) else none
  else none
theorem readC_back {l : List P2} (h : pathP l = true) : readC (cdL (turnsL l)) = some l := by
  have hok := turns_okP h
  have hlen := cdL_len hok
  have h1 := turnsL_le l
  have h2 := (pathP_parts h).1.2
  obtain ⟨s1, s2⟩ := stayV_turns h
  have s3 : stayR (turnsL l) = l := by unfold stayR; rw [s1, if_pos rfl, s2]
  have s4 : turnsV l = turnsL l := by unfold turnsV; rw [h, if_pos rfl]
  unfold readC
  rw [if_pos (by omega)]
  have := turnsP_back (k := 0) hok
  unfold cdL
  rw [this]
  simp only
  rw [if_pos ⟨s1, by rw [s3, s4]⟩, s3]
theorem readC_only {z : List UInt8} {l : List P2} (h : readC z = some l) : pathP l = true ∧ cdL (turnsL l) = z := by
  unfold readC at h
  split at h
  · split at h
    · cases h
    · rename_i t ht
      split at h
      · rename_i hc
        cases h
        obtain ⟨h1, h2⟩ := turnsP_only z.length (Nat.le_refl _) ht
        have s1 : stayR t = stayL t := by unfold stayR; rw [hc.1, if_pos rfl]
        have hp : pathP (stayR t) = true := by rw [s1]; exact stay_path hc.1
        refine ⟨hp, ?_⟩
        have s4 : turnsV (stayR t) = turnsL (stayR t) := by unfold turnsV; rw [hp, if_pos rfl]
        rw [← s4, hc.2]
        exact h2.symm
      · cases h
  · cases h
end Go.Proofs.YtfdnadiliedikaaDoor
namespace Go.Proofs.YtfdnadiliedikaaDoor
open Go.RowKit Go.Sort

theorem cut_spec (s sep : List UInt8) : ((Lib.cut s sep).2.2 = true ∧ s = (Lib.cut s sep).1 ++ sep ++ (Lib.cut s sep).2.1) ∨ ((Lib.cut s sep).2.2 = false ∧ (Lib.cut s sep).1 = s ∧ (Lib.cut s sep).2.1 = []) := by
  unfold Lib.cut
  rcases Lib.index_spec s sep with ⟨h1, _⟩ | ⟨i, h1, h2, h3, _⟩
  · rw [h1]; exact .inr ⟨rfl, rfl, rfl⟩
  · rw [h1]
    left
    unfold Lib.occAt at h3
    obtain ⟨t, ht⟩ := List.isPrefixOf_iff_prefix.1 h3
    refine ⟨rfl, ?_⟩
    simp only [if_pos (Int.natCast_nonneg i), Int.toNat_natCast]
    rw [← List.drop_drop, ← ht, List.drop_left, List.append_assoc, ht, List.take_append_drop]
/-- Whether a text ends with an end of line; and without it. -/
def nlB (q : List UInt8) : Bool := decide (q.getLast? = some 10)
def cutE (q : List UInt8) : List UInt8 := if nlB q = true then q.dropLast else q
def lineR (k : Nat) (y : List UInt8) : Option P2 :=
  if nlB (Lib.cut y [32, 88]).2.1 = true ∧ (Lib.cut y [32, 88]).1 = cwL k then placesP (Lib.cut (cutE (Lib.cut y [32, 88]).2.1) [32, 89]).1 (Lib.cut (cutE (Lib.cut y [32, 88]).2.1) [32, 89]).2.1 else none
theorem nlB_iff {q : List UInt8} (h : nlB q = true) : q = cutE q ++ [10] := by
  unfold cutE
  rw [if_pos h]
  have h' : q.getLast? = some 10 := of_decide_eq_true h
  obtain ⟨ys, e⟩ := List.getLast?_eq_some_iff.1 h'
  rw [e]; simp
theorem dgt_ne32 : ∀ k : Nat, k < 10 → UInt8.ofNat (48 + k) ≠ 32 := by decide
theorem cut_line (c0 c1 d e : UInt8) (h0 : c0 ≠ 32) (h1 : c1 ≠ 32) (hd : d ≠ 32) : Lib.cut [c0, c1, 32, 88, d, 32, 89, e, 10] [32, 88] = ([c0, c1], [d, 32, 89, e, 10], true) ∧ Lib.cut [d, 32, 89, e] [32, 89] = ([d], [e], true) := by
  have g0 : (32 == c0) = false := by simpa using fun h => h0 h.symm
  have g1 : (32 == c1) = false := by simpa using fun h => h1 h.symm
  have gd : (32 == d) = false := by simpa using fun h => hd h.symm
  constructor <;> simp [Lib.cut, Lib.index, List.isPrefixOf, g0, g1, gd]
theorem lineR_eq (k : Nat) (y : List UInt8) : lineR k y = lineP k y := by
  have dir1 : ∀ p, lineR k y = some p → lineP k y = some p := fun p h => by
    unfold lineR at h
    split at h
    · rename_i hc
      obtain ⟨he, hw⟩ := hc
      rcases cut_spec y [32, 88] with ⟨_, hy⟩ | ⟨_, _, h2⟩
      · have hq := nlB_iff he
        rcases cut_spec (cutE (Lib.cut y [32, 88]).2.1) [32, 89] with ⟨_, hz⟩ | ⟨_, _, h3⟩
        · unfold placesP at h
          split at h
          · rename_i a b ha hb
            cases h
            obtain ⟨m, hm, rfl, ea⟩ := plcP_some ha
            obtain ⟨n, hn, rfl, eb⟩ := plcP_some hb
            rw [ea, eb] at hz
            have e : y = lnL k ((m : Int), (n : Int)) := by
              have hok : okP ((m : Int), (n : Int)) = true := by rw [okP_iff]; simp only; omega
              rw [lnL_9 hok]
              rw [hy, hw, hq, hz]
              simp
            rw [e]
            exact lineP_back (by rw [okP_iff]; simp only; omega)
          · cases h
        · rw [h3] at h
          rw [places_right _ _ rfl] at h
          cases h
      · rw [h2] at he
        cases he
    · cases h
  cases h1 : lineP k y with
  | some p =>
    obtain ⟨hok, rfl⟩ := lineP_only h1
    rw [lnL_9 hok]
    obtain ⟨⟨h0, h1'⟩, h2, h3⟩ := (okP_iff p).1 hok
    have key : ∀ c0 c1 : UInt8, c0 ≠ 32 → c1 ≠ 32 → cwL k = [c0, c1] → lineR k (cwL k ++ [32, 88, UInt8.ofNat (48 + p.1.toNat), 32, 89, UInt8.ofNat (48 + p.2.toNat), 10]) = some p := fun c0 c1 n0 n1 e => by
      obtain ⟨q1, q2⟩ := cut_line c0 c1 (UInt8.ofNat (48 + p.1.toNat)) (UInt8.ofNat (48 + p.2.toNat)) n0 n1 (dgt_ne32 _ (by omega))
      have e2 : cwL k ++ [32, 88, UInt8.ofNat (48 + p.1.toNat), 32, 89, UInt8.ofNat (48 + p.2.toNat), 10] = [c0, c1, 32, 88, UInt8.ofNat (48 + p.1.toNat), 32, 89, UInt8.ofNat (48 + p.2.toNat), 10] := by rw [e]; rfl
      rw [e2]
      unfold lineR
      rw [q1]
      have e3 : nlB [UInt8.ofNat (48 + p.1.toNat), 32, 89, UInt8.ofNat (48 + p.2.toNat), 10] = true := by simp [nlB]
      have e4 : cutE [UInt8.ofNat (48 + p.1.toNat), 32, 89, UInt8.ofNat (48 + p.2.toNat), 10] = [UInt8.ofNat (48 + p.1.toNat), 32, 89, UInt8.ofNat (48 + p.2.toNat)] := by unfold cutE; rw [if_pos e3]; rfl
      simp only [e4]
      rw [q2, if_pos ⟨e3, e.symm⟩]
      unfold placesP
      rw [plcP_dig (by omega), plcP_dig (by omega)]
      simp only [Option.some.injEq]
      exact Prod.ext (by simp only; omega) (by simp only; omega)
    by_cases hk : k = 0
    · exact key 71 48 (by decide) (by decide) (by unfold cwL; rw [if_pos hk])
    · exact key 71 49 (by decide) (by decide) (by unfold cwL; rw [if_neg hk])
  | none =>
    cases h2 : lineR k y with
    | none => rfl
    | some p => rw [dir1 p h2] at h1; cases h1
theorem nlB_len {q : List UInt8} (h : nlB q = true) : 1 ≤ q.length := by rw [nlB_iff h]; simp
theorem extract_list (z : List UInt8) (a b : Nat) : (ByteArray.mk z.toArray).extract a b = ⟨((z.take b).drop a).toArray⟩ := by
  apply ByteArray.ext
  apply Array.ext'
  simp [List.drop_take]
theorem drop_last {q : List UInt8} (h : 1 ≤ q.length) : q.drop (q.length - 1) = [q.getLast (List.ne_nil_of_length_pos h)] := by
  have h1 := List.dropLast_concat_getLast (List.ne_nil_of_length_pos h)
  generalize q.getLast (List.ne_nil_of_length_pos h) = x at *
  generalize q.dropLast = A at *
  subst h1
  have hl : (A ++ [x]).length - 1 = A.length := by simp
  rw [hl, List.drop_left]
set_option maxRecDepth 100000 in
set_option maxHeartbeats 1000000 in
theorem hasSuffix_any (q : List UInt8) (hq : q.length ≤ 1000000) (w : World) :
    Calls Tryd.prog 83 #[.string ⟨q.toArray⟩, .string ⟨#[10]⟩] w fun e w' => e = .returned (.bool (nlB q)) ∧ Below w.heap.size w w' := by
  have hsz : (ByteArray.mk q.toArray).size = q.length := by unfold ByteArray.size; simp
  by_cases h1 : 1 ≤ q.length
  case neg =>
    obtain rfl : q = [] := List.eq_nil_of_length_eq_zero (by omega)
    go_enter Tryd.func83, Tryd.ntmps83
    go_wp2_with fail
    go_ret
    exact ⟨rfl, bw_refl _⟩
  case pos =>
  have j0 : (1 : Int) ≤ (q.length : Int) := by omega
  have k1 : IntKind.i64.wrap ((q.length : Int) - 1) = ((q.length - 1 : Nat) : Int) := by rw [wrap_small (by omega) (by omega)]; omega
  have j1 : ((q.length - 1 : Nat) : Int) ≤ (q.length : Int) := by omega
  have hx : (ByteArray.mk q.toArray).extract (q.length - 1) q.length = ⟨#[q.getLast (List.ne_nil_of_length_pos h1)]⟩ := by
    rw [extract_list, List.take_of_length_le (Nat.le_refl _), drop_last h1]
  have hB : nlB q = decide (q.getLast (List.ne_nil_of_length_pos h1) = 10) := by
    unfold nlB
    rw [List.getLast?_eq_some_getLast (List.ne_nil_of_length_pos h1)]
    simp
  rw [hB]
  generalize q.getLast (List.ne_nil_of_length_pos h1) = c at *
  go_enter Tryd.func83, Tryd.ntmps83
  go_wp2_with fail
  have hcc : (c == 10) = decide (c = 10) := by by_cases e : c = 10 <;> simp [e]
  refine bodyPost_ret (v := .bool (c == 10)) (by simp [results, Tryd.results83, go_sem]) rfl ?_
  exact ⟨by rw [hcc], bw_refl _⟩
set_option maxRecDepth 100000 in
set_option maxHeartbeats 1000000 in
theorem cutSuffix_lite (q : List UInt8) (hq : q.length ≤ 1000000) (w : World) :
    Calls Tryd.prog 77 #[.string ⟨q.toArray⟩, .string ⟨#[10]⟩] w fun e w' => e = .returned (.tuple #[.string ⟨(cutE q).toArray⟩, .bool (nlB q)]) ∧ Below w.heap.size w w' := by
  have hS := hasSuffix_any q hq w
  cases h : nlB q with
  | false =>
    rw [h] at hS
    have e1 : Hid (cutE q = q) := by change _ = _; unfold cutE; rw [h]; rfl
    go_enter Tryd.func77, Tryd.ntmps77
    go_wp2_with fail
    refine hS.mono ?_
    rintro e w1 ⟨rfl, J⟩
    go_wp2_with fail
    go_ret2
    exact ⟨by rw [e1.out]; rfl, J⟩
  | true =>
    rw [h] at hS
    have h1 := nlB_len h
    have hsz : (ByteArray.mk q.toArray).size = q.length := by unfold ByteArray.size; simp
    have k1 : IntKind.i64.wrap ((q.length : Int) - 1) = ((q.length - 1 : Nat) : Int) := by rw [wrap_small (by omega) (by omega)]; omega
    have j1 : ((q.length - 1 : Nat) : Int) ≤ (q.length : Int) := by omega
    have hx : Hid ((ByteArray.mk q.toArray).extract 0 (q.length - 1) = ⟨(cutE q).toArray⟩) := by
      change _ = _
      rw [extract_list]
      unfold cutE
      rw [if_pos h, List.drop_zero, List.dropLast_eq_take]
    go_enter Tryd.func77, Tryd.ntmps77
    go_wp2_with fail
    refine hS.mono ?_
    rintro e w1 ⟨rfl, J⟩
    go_wp2_with fail
    refine bodyPost_ret (v := .tuple #[.string ((ByteArray.mk q.toArray).extract 0 (q.length - 1)), .bool true]) (by simp [results, Tryd.results77, go_sem]) rfl ?_
    exact ⟨by rw [hx.out], J⟩
theorem cutSuffix_any (q : List UInt8) (hq : q.length ≤ 1000000) (w : World) :
    Calls Tryd.prog 65 #[.string ⟨q.toArray⟩, .string ⟨#[10]⟩] w fun e w' => e = .returned (.tuple #[.string ⟨(cutE q).toArray⟩, .bool (nlB q)]) ∧ Below w.heap.size w w' := by
  go_enter Tryd.func65, Tryd.ntmps65
  go_wp2_with fail
  refine (cutSuffix_lite q hq w).mono ?_
  rintro e w1 ⟨rfl, J⟩
  go_wp2_with fail
  go_ret2
  exact ⟨rfl, J⟩
theorem cut_lens (y sep : List UInt8) : (Lib.cut y sep).1.length ≤ y.length ∧ (Lib.cut y sep).2.1.length ≤ y.length := by
  rcases cut_spec y sep with ⟨_, h⟩ | ⟨_, h1, h2⟩
  · have := congrArg List.length h
    simp only [List.length_append] at this
    omega
  · rw [h1, h2]; simp
theorem cutE_len (q : List UInt8) : (cutE q).length ≤ q.length := by unfold cutE; split <;> simp
set_option maxRecDepth 100000 in
set_option maxHeartbeats 2000000 in
theorem codeLineRead_any (k : Nat) (y : List UInt8) (hy : y.length ≤ 100000) (w : World) (hL : Lib4 w) :
    Calls Tryd.prog 38 #[.int .i64 k, .string ⟨y.toArray⟩] w fun e w' => e = .returned (.tuple #[.agg #[.int .i64 (ptV (lineP k y)).1, .int .i64 (ptV (lineP k y)).2], .bool (lineP k y).isSome]) ∧ Below w.heap.size w w' := by
  obtain ⟨W, hW, BW, T⟩ := boxes1 w (.cells #[.int .i64 0, .int .i64 0] 42)
  have hysz : (ByteArray.mk y.toArray).size = y.length := by unfold ByteArray.size; simp
  obtain ⟨l1, l2⟩ := cut_lens y [32, 88]
  have hR := lineR_eq k y
  unfold lineR at hR
  have hC1 : ∀ V, Lib4 V → Calls Tryd.prog 64 #[.string ⟨y.toArray⟩, .string ⟨#[32, 88]⟩] V fun e w' => e = .returned (.tuple #[.string ⟨(Lib.cut y [32, 88]).1.toArray⟩, .string ⟨(Lib.cut y [32, 88]).2.1.toArray⟩, .bool (Lib.cut y [32, 88]).2.2]) ∧ Below V.heap.size V w' := fun V hV => by
    obtain ⟨m, hm⟩ := hV.most
    refine (shelf_strings_Cut ⟨y.toArray⟩ ⟨#[32, 88]⟩ m V (by rw [hysz]; omega) hm).mono ?_
    rintro e w1 ⟨rfl, n, rfl⟩
    exact ⟨by simp, by apply bw_drewN; exact bw_refl _⟩
  generalize hc1 : Lib.cut y [32, 88] = c1 at *
  obtain ⟨wd, q, f1⟩ := c1
  dsimp only at hC1 hR l1 l2
  have l3 := cutE_len q
  have hE := fun V => cutSuffix_any q (by omega) V
  obtain ⟨l4, l5⟩ := cut_lens (cutE q) [32, 89]
  have hesz : (ByteArray.mk (cutE q).toArray).size = (cutE q).length := by unfold ByteArray.size; simp
  have hC2 : ∀ V, Lib4 V → Calls Tryd.prog 64 #[.string ⟨(cutE q).toArray⟩, .string ⟨#[32, 89]⟩] V fun e w' => e = .returned (.tuple #[.string ⟨(Lib.cut (cutE q) [32, 89]).1.toArray⟩, .string ⟨(Lib.cut (cutE q) [32, 89]).2.1.toArray⟩, .bool (Lib.cut (cutE q) [32, 89]).2.2]) ∧ Below V.heap.size V w' := fun V hV => by
    obtain ⟨m, hm⟩ := hV.most
    refine (shelf_strings_Cut ⟨(cutE q).toArray⟩ ⟨#[32, 89]⟩ m V (by rw [hesz]; omega) hm).mono ?_
    rintro e w1 ⟨rfl, n, rfl⟩
    exact ⟨by simp, by apply bw_drewN; exact bw_refl _⟩
  generalize hc2 : Lib.cut (cutE q) [32, 89] = c2 at *
  obtain ⟨ax, uy, f2⟩ := c2
  dsimp only at hC2 hR l4 l5
  have hasz : (ByteArray.mk ax.toArray).size = ax.length := by unfold ByteArray.size; simp
  have husz : (ByteArray.mk uy.toArray).size = uy.length := by unfold ByteArray.size; simp
  have hP : ∀ V, Lib4 V → Calls Tryd.prog 66 #[.string ⟨ax.toArray⟩, .string ⟨uy.toArray⟩] V fun e w' => e = .returned (.tuple #[.agg #[.int .i64 (ptV (placesP ax uy)).1, .int .i64 (ptV (placesP ax uy)).2], .bool (placesP ax uy).isSome]) ∧ Below V.heap.size V w' := fun V hV => by
    have := placesRead_any ⟨ax.toArray⟩ ⟨uy.toArray⟩ (by rw [hasz]; omega) (by rw [husz]; omega) V hV
    simpa using this
  have hLW := hL.below BW
  have hWd := fun V => word_any k V
  generalize cutE q = ce at *
  generalize nlB q = nb at *
  generalize placesP ax uy = o at *
  obtain ⟨pv, hpv⟩ : ∃ pv, ptV o = pv := ⟨_, rfl⟩
  have HPV : Hid (ptV o = pv) := hpv
  rw [hpv] at hP
  clear hpv
  obtain ⟨px, py⟩ := pv
  dsimp only at hP
  generalize lineP k y = res at *
  have HR : Hid _ := hR
  clear hc1 hc2 hR l1 l2 l3 l4 l5 hysz hesz hasz husz
  go_enter Tryd.func38, Tryd.ntmps38
  go_upto_region 1 with fail
  rw [← hW]
  clear hW
  go_wp2_with fail
  refine (hC1 _ hLW).mono ?_
  rintro e w1 ⟨rfl, J1⟩
  go_wp2_with fail
  refine (hE _).mono ?_
  rintro e w2 ⟨rfl, J2⟩
  have K2 := bw_trans J1 J2
  go_wp2_with fail
  refine (hC2 _ (hLW.below K2)).mono ?_
  rintro e w3 ⟨rfl, J3⟩
  have K3 := bw_trans K2 J3
  go_wp2_with fail
  refine (hP _ (hLW.below K3)).mono ?_
  rintro e w4 ⟨rfl, J4⟩
  have K4 := bw_trans K3 J4
  have T4 := keep K4 T
  have zT4 := blk_lt T4
  have K5 := bw_trans BW K4
  obtain ⟨V, hV, BV, T5b⟩ : ∃ V, V = w4.alloc (.cells #[.int .i64 px, .int .i64 py] 42) ∧ Below w4.heap.size w4 V ∧ V.heap[w4.heap.size]? = some (.cells #[.int .i64 px, .int .i64 py] 42) := ⟨_, rfl, (by repeat (first | exact bw_refl _ | assumption | apply bw_drewN | apply bw_drew | apply bw_alloc | refine bw_set ?_ (by simp) _)), heap_new _ _⟩
  have T5 := keep BV T4
  have K6 : Below w.heap.size w V := bw_trans K5 BV
  go_upto_region 5 with fail
  rw [← hV]
  clear hV
  cases o with
  | none =>
    have e1 : Hid (res = none) := by change _ = _; rw [← HR.out]; split <;> rfl
    clear HR
    obtain ⟨q0, q1, qf0, qf1⟩ := blk2 T5
    have Z3 := setB2 (u0 := .int .i64 0) (u1 := .int .i64 0) T5
    obtain ⟨v0, v1, _, _⟩ := blk2 Z3
    go_wp2_with fail
    refine bodyPost_ret (v := .tuple #[.agg #[.int .i64 0, .int .i64 0], .bool false]) (by simp [results, Tryd.results38, go_sem, v0, v1]) rfl ?_
    exact ⟨by rw [e1.out]; rfl, (K6.setCell (p := ⟨w.heap.size, 0, none⟩) (Nat.le_refl _) _).setCell (p := ⟨w.heap.size, 1, none⟩) (Nat.le_refl _) _⟩
  | some p =>
  obtain rfl : p = (px, py) := HPV.out
  cases nb with
  | false =>
    have e1 : Hid (res = none) := by change _ = _; rw [← HR.out, if_neg (by simp)]
    clear HR
    obtain ⟨q0, q1, qf0, qf1⟩ := blk2 T5
    have Z3 := setB2 (u0 := .int .i64 0) (u1 := .int .i64 0) T5
    obtain ⟨v0, v1, _, _⟩ := blk2 Z3
    go_wp2_with fail
    refine bodyPost_ret (v := .tuple #[.agg #[.int .i64 0, .int .i64 0], .bool false]) (by simp [results, Tryd.results38, go_sem, v0, v1]) rfl ?_
    exact ⟨by rw [e1.out]; rfl, (K6.setCell (p := ⟨w.heap.size, 0, none⟩) (Nat.le_refl _) _).setCell (p := ⟨w.heap.size, 1, none⟩) (Nat.le_refl _) _⟩
  | true =>
  by_cases hwd : wd = cwL k
  case neg =>
    have e1 : Hid (res = none) := by change _ = _; rw [← HR.out, if_neg (by simp [hwd])]
    clear HR
    have hne := ba_ne (a := ⟨wd.toArray⟩) (b := ⟨(cwL k).toArray⟩) (fun e => hwd (by have := congrArg (fun b => b.data.toList) e; simpa using this))
    have hne2 : (wd == cwL k) = false := by simpa using hwd
    generalize cwL k = cw at *
    go_wp2_with fail
    refine (hWd _).mono ?_
    rintro e w5 ⟨rfl, J5⟩
    replace T5 := keep J5 T5
    replace K6 := bw_trans K6 J5
    obtain ⟨q0, q1, qf0, qf1⟩ := blk2 T5
    have Z3 := setB2 (u0 := .int .i64 0) (u1 := .int .i64 0) T5
    obtain ⟨v0, v1, _, _⟩ := blk2 Z3
    go_wp2_with fail
    refine bodyPost_ret (v := .tuple #[.agg #[.int .i64 0, .int .i64 0], .bool false]) (by simp [results, Tryd.results38, go_sem, v0, v1]) rfl ?_
    exact ⟨by rw [e1.out]; rfl, (K6.setCell (p := ⟨w.heap.size, 0, none⟩) (Nat.le_refl _) _).setCell (p := ⟨w.heap.size, 1, none⟩) (Nat.le_refl _) _⟩
  case pos =>
    subst hwd
    have e1 : Hid (res = some (px, py)) := by change _ = _; rw [← HR.out, if_pos ⟨rfl, rfl⟩]
    clear HR
    generalize cwL k = cw at *
    go_wp2_with fail
    refine (hWd _).mono ?_
    rintro e w5 ⟨rfl, J5⟩
    replace T5 := keep J5 T5
    replace T5b := keep J5 T5b
    replace K6 := bw_trans K6 J5
    obtain ⟨q0, q1, qf0, qf1⟩ := blk2 T5
    obtain ⟨r0, r1, rf0, rf1⟩ := blk2 T5b
    have Z3 := setB2 (u0 := .int .i64 px) (u1 := .int .i64 py) T5
    obtain ⟨v0, v1, _, _⟩ := blk2 Z3
    go_wp2_with fail
    refine bodyPost_ret (v := .tuple #[.agg #[.int .i64 px, .int .i64 py], .bool true]) (by simp [results, Tryd.results38, go_sem, v0, v1]) rfl ?_
    exact ⟨by rw [e1.out]; rfl, (K6.setCell (p := ⟨w.heap.size, 0, none⟩) (Nat.le_refl _) _).setCell (p := ⟨w.heap.size, 1, none⟩) (Nat.le_refl _) _⟩
end Go.Proofs.YtfdnadiliedikaaDoor
namespace Go.Proofs.YtfdnadiliedikaaDoor
open Go.RowKit Go.Shelf Go.Sort
attribute [local go_sem] Oper.semAt_some

def colR : Go.Shelf.Ren := ⟨fun | 8 => 36 | 11 => 61 | n => n, fun | 0 => 0 | 24 => 46 | 26 => 9 | 28 => 60 | 33 => 39 | n => n, fun | n => n⟩
theorem colL : SlLaysZ.n11 Tryd.prog colR := {
  mixed := by kernel_rfl
  f11 := ⟨ "slices.AppendSeq[[]string,string]", by decide, Tryd.func61.trans (congrArg some (by kernel_rfl))⟩
  t0 := Tryd.underlying0
  a0 := Tryd.isAgg0
  z0 := Tryd.sizeOf0
  v0 := Tryd.zeroValue0
  t24 := Tryd.underlying46
  a24 := Tryd.isAgg46
  z24 := Tryd.sizeOf46
  v24 := Tryd.zeroValue46
  t26 := Tryd.underlying9
  a26 := Tryd.isAgg9
  z26 := Tryd.sizeOf9
  v26 := Tryd.zeroValue9
  t28 := Tryd.underlying60
  a28 := Tryd.isAgg60
  z28 := Tryd.sizeOf60
  v28 := Tryd.zeroValue60
  i26 := by kernel_rfl }

theorem ib_some : ∀ {x r : List UInt8}, (10 : UInt8) ∉ x → Lib.indexByte (x ++ 10 :: r) 10 = x.length
  | [], r, _ => by simp [Lib.indexByte]
  | c :: x, r, h => by
    have hc : (c == 10) = false := by simp only [beq_eq_false_iff_ne]; rintro rfl; exact h (by simp)
    have ih := ib_some (x := x) (r := r) (fun m => h (by simp [m]))
    simp only [List.cons_append, Lib.indexByte, hc, ih]
    have h1 : ((x.length : Int) == -1) = false := by rw [beq_eq_false_iff_ne]; omega
    simp [h1]
theorem ib_none : ∀ {x : List UInt8}, (10 : UInt8) ∉ x → Lib.indexByte x 10 = -1
  | [], _ => rfl
  | c :: x, h => by
    have hc : (c == 10) = false := by simp only [beq_eq_false_iff_ne]; rintro rfl; exact h (by simp)
    have ih := ib_none (x := x) (fun m => h (by simp [m]))
    simp [Lib.indexByte, hc, ih]

def w0r (w : World) (b : Nat) (r : List UInt8) : World := w.setCell ⟨b, 0, none⟩ (encStr r)
def boxLen (b : Nat) (w : World) : Nat := match w.cell? ⟨b, 0, none⟩ with | some (.string d) => d.size | _ => 0
theorem size_w0r (w : World) (b : Nat) (r : List UInt8) : (w0r w b r).heap.size = w.heap.size := by simp [w0r, World.setCell]
theorem w0r_block {w : World} {b : Nat} {z : List UInt8} {t : TypeId} (r : List UInt8) (h : w.heap[b]? = some (.cells #[encStr z] t (0, 0))) : (w0r w b r).heap[b]? = some (.cells #[encStr r] t (0, 0)) := heap_setCell_box_a _ h
theorem boxLen_of {b : Nat} {w : World} {r : List UInt8} {t : TypeId} (h : w.heap[b]? = some (.cells #[encStr r] t (0, 0))) : boxLen b w = r.length := by
  unfold boxLen; rw [(cell_of_box_a h).1]; simp [ByteArray.size]
section
variable {w W : World} {b : Nat} {r z : List UInt8} {t : TypeId} {fn : FuncId} {sv : Value} {Bs l D : Nat} {ss : List (List UInt8)}
theorem apAt_box (h : AnyZ.ApAt colR (w0r w b r) fn sv Bs l D ss W) (hb : b < w.heap.size) (hw : w.heap[b]? = some (.cells #[encStr z] t (0, 0))) : W.heap[b]? = some (.cells #[encStr r] t (0, 0)) :=
  (h.below.block b (by rw [size_w0r]; exact hb)).trans (w0r_block r hw)
theorem apAt_drew (h : AnyZ.ApAt colR (w0r w b r) fn sv Bs l D ss W) : AnyZ.ApAt colR (w0r w b r) fn sv Bs l D ss W.drew := ⟨h.box, h.L, h.K, h.below.drew⟩
theorem apAt_put (r' : List UInt8) (h : AnyZ.ApAt colR (w0r w b r) fn sv Bs l D ss W) (hb : b < w.heap.size) (hw : w.heap[b]? = some (.cells #[encStr z] t (0, 0))) (h1 : w.heap.size ≤ Bs) (h2 : w.heap.size ≤ l) (h3 : w.heap.size ≤ D) :
    AnyZ.ApAt colR (w0r w b r') fn sv Bs l D ss (W.setCell ⟨b, 0, none⟩ (encStr r')) := by
  have hW := apAt_box h hb hw
  have hg : W.grownBy (W.setCell ⟨b, 0, none⟩ (encStr r')) (some b) := grownBy_setCell0_a _ _ _
  have es := size_w0r w b r
  have es' := size_w0r w b r'
  obtain ⟨v, hv, hrow, hn⟩ := h.box
  rw [es] at hrow
  refine ⟨⟨v, (Below.heap_setCell _ _ _ _ (by dsimp only; omega)).trans hv, ?_, hn⟩, (Below.heap_setCell _ _ _ _ (by dsimp only; omega)).trans h.L, (Below.heap_setCell _ _ _ _ (by dsimp only; omega)).trans h.K, h.below.os, h.below.tape, h.below.output, ?_, ?_⟩
  · rw [es']
    exact hrow.kept hg (.inr fun e => absurd (hrow.lt b e).1 (by omega))
  · rw [es']; have := h.below.size; rw [es] at this; exact Nat.le_trans this hg.size
  · intro k hk
    rw [es'] at hk
    by_cases c : k = b
    · subst c; exact (heap_setCell_box_a _ hW).trans (w0r_block r' hw).symm
    · exact (Below.heap_setCell _ _ _ k (by dsimp only; exact c)).trans ((h.below.block k (by rw [es]; exact hk)).trans ((Below.heap_setCell w ⟨b, 0, none⟩ (encStr r) k (by dsimp only; exact c)).trans (Below.heap_setCell w ⟨b, 0, none⟩ (encStr r') k (by dsimp only; exact c)).symm))
theorem apAt_start (h : AnyZ.ApAt colR w fn sv Bs l D ss W) (hb : b < w.heap.size) (hw : w.heap[b]? = some (.cells #[encStr z] t (0, 0))) : AnyZ.ApAt colR (w0r w b z) fn sv Bs l D ss W := by
  have es := size_w0r w b z
  obtain ⟨v, hv, hrow, hn⟩ := h.box
  refine ⟨⟨v, hv, by rw [es]; exact hrow, hn⟩, h.L, h.K, h.below.os, h.below.tape, h.below.output, by rw [es]; exact h.below.size, ?_⟩
  intro k hk
  rw [es] at hk
  by_cases c : k = b
  · subst c; exact (h.below.block k hk).trans (hw.trans (w0r_block z hw).symm)
  · exact (h.below.block k hk).trans (Below.heap_setCell w ⟨b, 0, none⟩ (encStr z) k (by dsimp only; exact c)).symm
end

set_option maxRecDepth 100000 in
set_option maxHeartbeats 4000000 in
theorem lines1_in (m : Nat) (hm : 1 ≤ m) (b : Nat) (w : World) (z : List UInt8) (hz : z.length ≤ 100000) (hb : b < w.heap.size) (hw : w.heap[b]? = some (.cells #[encStr z] 9 (0, 0))) (fn : FuncId) (sv : Value) (Bs l D : Nat)
    (hBl : Bs ≠ l) (hDl : D ≠ l) (hDB : D ≠ Bs) (h0B : w.heap.size ≤ Bs) (h0l : w.heap.size ≤ l) (h0D : w.heap.size ≤ D) (W : World) (h0 : AnyZ.ApAt colR (w0r w b z) fn sv Bs l D [] W) :
    CallsIn Fence.wide m Tryd.prog 62 #[.func (.yield l) #[] #[], .pointer (some ⟨b, 0, none⟩)] W fun e W' => (∃ v, e = .returned v) ∧ AnyZ.ApAt colR (w0r w b []) fn sv Bs l D (lnsW z) W' := by
  have hmx : Tryd.prog.follows .mixedOrders = true := by kernel_rfl
  refine callsIn_of_wp Tryd.func62 rfl trivial ?_ rfl
  simp only [Tryd.ntmps62, List.size_toArray, List.length_cons, List.length_nil, Nat.reduceAdd, Nat.reduceSub, Array.replicate_succ, Array.replicate_zero, List.push_toArray, List.append_toArray, List.nil_append, List.cons_append]
  gi_wp2
  gi_loopw [] (fun wr => ∃ (r : List UInt8) (ss : List (List UInt8)), AnyZ.ApAt colR (w0r w b r) fn sv Bs l D ss wr ∧ ss ++ lnsW r = lnsW z ∧ ss.length + r.length ≤ z.length)
    (fun wr => boxLen b wr)
  case atStart => exact ⟨z, [], h0, rfl, by simp⟩
  case round =>
    obtain ⟨r, ss, hA, hss, hlen⟩ := hrel
    have hbx := apAt_box hA hb hw
    obtain ⟨hc, hf⟩ := cell_of_box_a hbx
    have hbl := boxLen_of hbx
    by_cases hr : r = []
    · subst hr
      have hc' : wr.cell? ⟨b, 0, none⟩ = some (.string ⟨#[]⟩) := hc
      have e : ss = lnsW z := by rw [← hss, lnsW_nil, List.append_nil]
      clear hc hss
      gi_wp2
      go_end0
      exact ⟨⟨_, rfl⟩, by rw [← e]; exact hA⟩
    · obtain ⟨d, hd⟩ : ∃ d : ByteArray, d = ⟨r.toArray⟩ := ⟨_, rfl⟩
      have hds : d.size = r.length := by rw [hd]; simp [ByteArray.size]
      have hdl : d.data.toList = r := by rw [hd]
      have hcd : wr.cell? ⟨b, 0, none⟩ = some (.string d) := by rw [hd]; exact hc
      have hrl : 0 < r.length := List.length_pos_iff.2 hr
      have hpos : (0 : Int) < (d.size : Int) := by omega
      clear hc
      by_cases hx : (10 : UInt8) ∈ r
      · obtain ⟨x, r', hre, hx'⟩ := cut_first' hx
        obtain ⟨k, hk⟩ : ∃ k, k = x.length := ⟨_, rfl⟩
        have hIB : Calls Tryd.prog 63 #[.string d, .int .u8 10] wr fun e v => e = .returned (.int .i64 (k : Int)) ∧ v = wr := by
          have h1 := shelfb_strings_IndexByte d 10 wr
          have e : Lib.indexByte d.data.toList (10 : Int).toNat.toUInt8 = k := by rw [hdl, hre, hk]; exact ib_some hx'
          rw [e] at h1; exact h1
        have hk2 : r.length = k + r'.length + 1 := by rw [hre, hk]; simp; omega
        have hge : (0 : Int) ≤ (k : Int) := Int.natCast_nonneg k
        have hwr : IntKind.i64.wrap ((k : Int) + 1) = (k : Int) + 1 := wrap_small (by omega) (by omega)
        have eL : Hid (encStr (x ++ [10]) = .string (d.extract 0 (k + 1))) := by
          show encStr (x ++ [10]) = _
          rw [hd, hre, hk]; simp [encStr, ByteArray.extract, ByteArray.copySlice]
          rw [show x ++ 10 :: r' = (x ++ [10]) ++ r' by simp, List.take_left' (by simp)]
        have eR : Hid (encStr r' = .string (d.extract (k + 1) d.size)) := by
          show encStr r' = _
          rw [hd, hre, hk]; simp [encStr, ByteArray.extract, ByteArray.copySlice, ByteArray.size]
          rw [List.take_of_length_le (by omega)]
        have eW : Hid (lnsW r = (x ++ [10]) :: lnsW r') := by
          show lnsW r = _
          rw [hre]; exact lnsW_word hx'
        replace hss : Hid (ss ++ lnsW r = lnsW z) := hss
        replace hbl : Hid (boxLen b wr = r.length) := hbl
        replace hIB : Hid (Calls Tryd.prog 63 #[.string d, .int .u8 10] wr fun e v => e = .returned (.int .i64 (k : Int)) ∧ v = wr) := hIB
        have hkd : (k : Int) + 1 ≤ (d.size : Int) := by omega
        replace hk2 : Hid (r.length = k + r'.length + 1) := hk2
        replace hds : Hid (d.size = r.length) := hds
        have hneg : ((k : Int) + 1 < 0) = False := eq_false (by omega)
        clear hd hre hk hx hx' hdl hr hbx hrl
        gi_wp2_with (refine ⟨trivial, ?_⟩; gi_at_call 63; refine (callsIn_wide.2 hIB.out).mono ?_; rintro e v ⟨rfl, hv⟩; rw [hv]; clear hv v)
        refine wpIn_wide.2 ?_
        have hS0 : wr.drew.cell? ⟨b, 0, none⟩ = some (.string d) := hcd
        refine wp_region_Z (z := 9) (S := fun u : World => u.cell? ⟨b, 0, none⟩ = some (.string d)) hmx ?_
        refine wpAnyZ_take (i := 0) (v := .string d) rfl rfl (by kernel_rfl) (by kernel_rfl) (by kernel_rfl) (by kernel_rfl) (fun _ _ _ h => h) (Or.inl ⟨by rfl, by intro w' s1; go_simp⟩) hS0 ?_
        refine wpAnyZ_take (i := 1) (v := .int .i64 (k : Int)) rfl rfl (by kernel_rfl) (by kernel_rfl) (by kernel_rfl) (by kernel_rfl) (fun _ _ _ h => h) (Or.inl ⟨by rfl, by intro w' s1; go_simp⟩) hS0 ?_
        refine wpAnyZ_take (i := 2) (v := .int .i64 ((k : Int) + 1)) rfl rfl (by kernel_rfl) (by kernel_rfl) (by kernel_rfl) (by kernel_rfl) (fun _ _ _ h => h) (Or.inl ⟨by rfl, by intro w' s1; go_simp⟩) hS0 ?_
        refine wpAnyZ_take (i := 3) (v := .string (d.extract 0 (k + 1))) rfl rfl (by kernel_rfl) (by kernel_rfl) (by kernel_rfl) (by kernel_rfl) (fun _ _ _ h => h) (Or.inl ⟨by rfl, by intro w' s1; go_simp⟩) hS0 ?_
        refine wpAnyZ_take (i := 4) (v := .string d) rfl rfl (by kernel_rfl) (by kernel_rfl) (by kernel_rfl) (by kernel_rfl) (fun _ _ _ h => h) (Or.inl ⟨by rfl, by intro w' s1; go_simp⟩) hS0 ?_
        refine wpAnyZ_take (i := 5) (v := .int .i64 (k : Int)) rfl rfl (by kernel_rfl) (by kernel_rfl) (by kernel_rfl) (by kernel_rfl) (fun _ _ _ h => h) (Or.inl ⟨by rfl, by intro w' s1; go_simp⟩) hS0 ?_
        refine wpAnyZ_take (i := 6) (v := .int .i64 ((k : Int) + 1)) rfl rfl (by kernel_rfl) (by kernel_rfl) (by kernel_rfl) (by kernel_rfl) (fun _ _ _ h => h) (Or.inl ⟨by rfl, by intro w' s1; go_simp⟩) hS0 ?_
        refine wpAnyZ_take (i := 7) (v := .string (d.extract (k + 1) d.size)) rfl rfl (by kernel_rfl) (by kernel_rfl) (by kernel_rfl) (by kernel_rfl) (fun _ _ _ h => h) (Or.inl ⟨by rfl, by intro w' s1; go_simp⟩) hS0 ?_
        refine wpAnyZ_take (i := 8) (v := .string (d.extract 0 (k + 1))) rfl rfl (by kernel_rfl) (by kernel_rfl) (by kernel_rfl) (by kernel_rfl) (fun _ _ _ h => h) (Or.inl ⟨by rfl, by intro w' s1; go_simp⟩) hS0 ?_
        refine wpAnyZ_one (i := 9) (by kernel_rfl) rfl rfl ?_
        go_simp
        refine ⟨by kernel_rfl, ?_⟩
        try simp only [Exit.then]
        have hA2 : AnyZ.ApAt colR (w0r w b r') fn sv Bs l D ss (wr.setCell ⟨b, 0, none⟩ (.string (d.extract (k + 1) d.size))).drew := apAt_drew (by rw [← eR.out]; exact apAt_put r' hA hb hw h0B h0l h0D)
        obtain ⟨W2, hW2⟩ : ∃ W2, (wr.setCell ⟨b, 0, none⟩ (.string (d.extract (k + 1) d.size))).drew = W2 := ⟨_, rfl⟩
        rw [hW2] at hA2 ⊢
        clear hW2 hcd hS0 hf
        have hlt : ss.length < 100000 := by have := hk2.out; omega
        obtain ⟨fn', tmps, assign, body, hy, hR⟩ := AnyZ.apYield colL Fence.wide (m - 1) (w0r w b r') fn trivial sv Bs l D hBl hDl hDB (by rw [size_w0r]; exact h0B) (by rw [size_w0r]; exact h0l) 100000 (by decide) (by decide) ss (x ++ [10]) W2 hA2 hlt
        rw [eL.out] at hy
        have hR2 := hR.mono (R' := fun e W' => e = .returned (.bool true) ∧ Hid (AnyZ.ApAt colR (w0r w b r') fn sv Bs l D (ss ++ [x ++ [10]]) W')) (by
          rintro e W' ⟨rfl, h1, _⟩
          exact ⟨rfl, h1⟩)
        clear hR hA2 hA
        gi_wp2
        refine hR2.mono ?_
        rintro e W3 ⟨rfl, hA3⟩
        clear hR2 hy
        have hnew : Hid ((ss ++ [x ++ [10]]) ++ lnsW r' = lnsW z) := by
          show _ = _
          have h2 := hss.out; rw [eW.out] at h2; rw [← h2]; simp
        replace hlen : Hid (ss.length + r.length ≤ z.length) := hlen
        gi_wp2
        go_roundw
        case rel => exact ⟨r', ss ++ [x ++ [10]], hA3.out, hnew.out, by have := hk2.out; have := hlen.out; simp; omega⟩
        case measure => rw [boxLen_of (apAt_box hA3.out hb hw), hbl.out, hk2.out]; omega
      · have hIB : Hid (Calls Tryd.prog 63 #[.string d, .int .u8 10] wr fun e v => e = .returned (.int .i64 (-1)) ∧ v = wr) := by
          have h1 := shelfb_strings_IndexByte d 10 wr
          have e : Lib.indexByte d.data.toList (10 : Int).toNat.toUInt8 = -1 := by rw [hdl]; exact ib_none hx
          rw [e] at h1; exact h1
        have eL : Hid (encStr r = .string d) := by show encStr r = _; rw [hd]
        have eW : Hid (lnsW r = [r]) := lnsW_free hx hr
        replace hss : Hid (ss ++ lnsW r = lnsW z) := hss
        replace hbl : Hid (boxLen b wr = r.length) := hbl
        replace hds : Hid (d.size = r.length) := hds
        replace hrl : Hid (0 < r.length) := hrl
        clear hd hx hdl hr hbx
        have hA2 : AnyZ.ApAt colR (w0r w b []) fn sv Bs l D ss (wr.setCell ⟨b, 0, none⟩ (.string ⟨#[]⟩)) := apAt_put [] hA hb hw h0B h0l h0D
        have hlt : ss.length < 100000 := by have := hrl.out; omega
        obtain ⟨fn', tmps, assign, body, hy, hR⟩ := AnyZ.apYield colL Fence.wide (m - 1) (w0r w b []) fn trivial sv Bs l D hBl hDl hDB (by rw [size_w0r]; exact h0B) (by rw [size_w0r]; exact h0l) 100000 (by decide) (by decide) ss r _ hA2 hlt
        rw [eL.out] at hy
        have hR2 := hR.mono (R' := fun e W' => e = .returned (.bool true) ∧ Hid (AnyZ.ApAt colR (w0r w b []) fn sv Bs l D (ss ++ [r]) W')) (by
          rintro e W' ⟨rfl, h1, _⟩
          exact ⟨rfl, h1⟩)
        clear hR hA2 hA
        have hnew : Hid ((ss ++ [r]) ++ lnsW [] = lnsW z) := by
          show _ = _
          have h2 := hss.out; rw [eW.out] at h2; rw [← h2, lnsW_nil]; simp
        replace hlen : Hid (ss.length + r.length ≤ z.length) := hlen
        gi_wp2_with (refine ⟨trivial, ?_⟩; gi_at_call 63; refine (callsIn_wide.2 hIB.out).mono ?_; rintro e v ⟨rfl, hv⟩; rw [hv]; clear hv v)
        refine hR2.mono ?_
        rintro e W3 ⟨rfl, hA3⟩
        clear hR2 hy
        gi_wp2
        go_roundw
        case rel => exact ⟨[], ss ++ [r], hA3.out, hnew.out, by have := hrl.out; have := hlen.out; simp; omega⟩
        case measure => rw [boxLen_of (apAt_box hA3.out hb hw), hbl.out]; exact hrl.out

end Go.Proofs.YtfdnadiliedikaaDoor
namespace Go.Proofs.YtfdnadiliedikaaDoor
open Go.RowKit Go.Shelf Go.Sort
attribute [local go_sem] Oper.semAt_some
set_option maxRecDepth 100000 in
set_option maxHeartbeats 4000000 in
theorem appendLines_in (n : Nat) (hn : 2 ≤ n) (b : Nat) (w : World) (z : List UInt8) (hz : z.length ≤ 100000) (hb : b < w.heap.size) (hw : w.heap[b]? = some (.cells #[encStr z] 9 (0, 0))) :
    CallsIn Fence.wide n Tryd.prog (colR.f 11) #[.slice none 0 0, .func (.func 62) #[] #[.pointer (some ⟨b, 0, none⟩)]] w fun e w' => ∃ v : Value, e = .returned v ∧ w'.ownsRow w.heap.size (colR.t 26) 1 v (lnsW z).length ((lnsW z).map encStr) ∧ Below b w w' := by
  have h1 : 1 ≤ n := by omega
  have L := colL
  have mixed := L.mixed; have t0 := L.t0; have a0 := L.a0; have z0 := L.z0; have v0 := L.v0; have t24 := L.t24; have a24 := L.a24; have z24 := L.z24; have v24 := L.v24; have t26 := L.t26; have a26 := L.a26; have z26 := L.z26; have v26 := L.v26; have t28 := L.t28; have a28 := L.a28; have z28 := L.z28; have v28 := L.v28
  have hne : colR.t 24 ≠ colR.t 26 := fun e => by have h := L.t24; rw [e, L.t26] at h; cases h
  have u0 := run_underlying L.t0; have u24 := run_underlying L.t24; have u26 := run_underlying L.t26; have u28 := run_underlying L.t28
  obtain ⟨_, _, FG⟩ := L.f11
  refine callsIn_of_wp_marks FG rfl trivial ?_ rfl
  simp only [SlBodyZ.n11_ntmps colR, List.size_toArray, List.length_cons, List.length_nil, Nat.reduceAdd, Nat.reduceSub, Array.replicate_succ, Array.replicate_zero, List.push_toArray, List.append_toArray, List.nil_append, List.cons_append]
  gi_wp2
  refine wpIn_rangeFunc ?_
  intro fn hfn
  obtain ⟨sv, hsv⟩ : ∃ sv : Value, sv = .func (.func 62) #[] #[.pointer (some ⟨b, 0, none⟩)] := ⟨_, rfl⟩
  obtain ⟨W0, hW0⟩ : ∃ W0, w.alloc (.cells #[.slice none 0 0] (colR.t 24)) = W0 := ⟨_, rfl⟩
  have hs0 : W0.heap.size = w.heap.size + 1 := by rw [← hW0]; simp
  have hv0 : W0.heap[w.heap.size]? = some (.cells #[.slice none 0 0] (colR.t 24) (0, 0)) := by rw [← hW0]; exact World.alloc_heap_new w _
  have hb0 : Below w.heap.size w W0 := by rw [← hW0]; exact (Below.refl _ w).alloc (Nat.le_refl _) _
  rw [hW0]
  obtain ⟨W1, hW1⟩ : ∃ W1, (W0.alloc (.deferred (some []))).alloc (.loop (AnyZ.apRec colR fn sv w.heap.size W0.heap.size .ready none)) = W1 := ⟨_, rfl⟩
  have hold : ∀ k, k < W0.heap.size → W1.heap[k]? = W0.heap[k]? := fun k hk => by
    rw [← hW1]; exact (Below.heap_alloc _ _ k (by simp; omega)).trans (Below.heap_alloc _ _ k hk)
  have hb1 : Below w.heap.size w W1 := by rw [← hW1]; exact (hb0.alloc hb0.size _).alloc (by have := hb0.size; simp; omega) _
  have hs1 : W1.heap.size = W0.heap.size + 2 := by rw [← hW1]; simp
  have hM : AnyZ.ApAt colR w fn sv w.heap.size (W0.heap.size + 1) W0.heap.size [] W1 :=
    ⟨⟨_, (hold w.heap.size (by omega)).trans hv0, ⟨rfl, .inl ⟨rfl, rfl⟩⟩, by simp⟩,
     by rw [← hW1]; have := World.alloc_heap_new (W0.alloc (.deferred (some []))) (.loop (AnyZ.apRec colR fn sv w.heap.size W0.heap.size .ready none)); rwa [World.size_alloc] at this,
     by rw [← hW1]; exact (Below.heap_alloc _ _ _ (by simp)).trans (World.alloc_heap_new W0 _), hb1⟩
  refine ⟨W0.heap.size + 1, [{ target := .collected W0.heap.size, args := #[] }], W1, { target := .fn (.func 62) #[.pointer (some ⟨b, 0, none⟩)], args := #[.func (.yield (W0.heap.size + 1)) #[] #[]] }, W1, 62,
    #[.func (.yield (W0.heap.size + 1)) #[] #[]] ++ #[.pointer (some ⟨b, 0, none⟩)], W1, ?_, ?_, ?_, ?_, fun _ => h1, ?_⟩
  · rw [← hW1, hsv]; exact run_enterLoop_outer _ _ _ _ _
  · simp [resolve, go_sem]
  · intro f' hf'; trivial
  · simp [invoke, go_sem]
  · refine (lines1_in (n - 1) (by omega) b w z hz hb hw fn sv w.heap.size (W0.heap.size + 1) W0.heap.size (by omega) (by omega) (by omega) (Nat.le_refl _) (by omega) (by omega) W1 (apAt_start hM hb hw)).mono ?_
    rintro e W2 ⟨⟨v0, rfl⟩, h2⟩
    obtain ⟨v, hv, hrow, hnil⟩ := h2.box
    rw [size_w0r] at hrow
    have hend := run_endLoop (P := Tryd.prog) h2.L (by simp [AnyZ.apRec])
    obtain ⟨W3, hW3⟩ : ∃ W3, W2.putObj (W0.heap.size + 1) (.loop { AnyZ.apRec colR fn sv w.heap.size W0.heap.size .ready none with state := .exhausted }) = W3 := ⟨_, rfl⟩
    rw [hW3] at hend
    have hg3 : W2.grownBy W3 (some (W0.heap.size + 1)) := by rw [← hW3]; exact grownBy_putObj_a _ _ _
    have hv3 : W3.heap[w.heap.size]? = some (.cells #[v] (colR.t 24) (0, 0)) := by rw [← hW3]; exact (World.putObj_heap_other (by omega)).trans hv
    have hK3 : W3.heap[W0.heap.size]? = some (.deferred (some [])) := by rw [← hW3]; exact (World.putObj_heap_other (by omega)).trans h2.K
    have hrow3 := hrow.kept hg3 (ownsRow_ne_a hrow h2.L (fun cur e => by first | cases e | exact hne (Obj.cells.inj e).2.1))
    have hbb : Below b w W2 := ⟨h2.below.os, h2.below.tape, h2.below.output, by have := h2.below.size; rw [size_w0r] at this; exact this, fun k hk => (h2.below.block k (by rw [size_w0r]; omega)).trans (Below.heap_setCell w ⟨b, 0, none⟩ (encStr []) k (by dsimp only; omega))⟩
    have hb3 : Below b w W3 := hbb.grown hg3 (by have := hbb.size; omega) (fun k e => by cases e; omega)
    obtain ⟨hc3, hf3⟩ := cell_of_box_a hv3
    clear hW3
    refine ⟨none, W3, hend, ?_⟩
    gi_wp2
    rw [← hs0]
    refine ⟨by simp, .inl ⟨_, _, rfl, run_takeDeferred hK3, ?_⟩⟩
    exact ⟨_, results_tmp rfl _ _ _, v, rfl, hrow3.kept (grownBy_putObj_a _ _ _) (ownsRow_ne_a hrow3 hK3 (fun cur e => by first | cases e | exact hne (Obj.cells.inj e).2.1)), hb3.grown (grownBy_putObj_a _ _ _) (by have := hb3.size; omega) (fun k e => by cases e; omega)⟩

end Go.Proofs.YtfdnadiliedikaaDoor
namespace Go.Proofs.YtfdnadiliedikaaDoor
open Go.RowKit Go.Shelf Go.Sort
attribute [local go_sem] Oper.semAt_some
theorem appendLines_any (b : Nat) (w : World) (z : List UInt8) (hz : z.length ≤ 100000) (hb : b < w.heap.size) (hw : w.heap[b]? = some (.cells #[encStr z] 9 (0, 0))) :
    Calls Tryd.prog 61 #[.slice none 0 0, .func (.func 62) #[] #[.pointer (some ⟨b, 0, none⟩)]] w fun e w' => ∃ v : Value, e = .returned v ∧ w'.ownsRow w.heap.size 9 1 v (lnsW z).length ((lnsW z).map encStr) ∧ Below b w w' :=
  callsIn_wide.1 (appendLines_in 2 (Nat.le_refl _) b w z hz hb hw)
set_option maxRecDepth 100000 in
set_option maxHeartbeats 2000000 in
theorem collectLines_any (b : Nat) (w : World) (z : List UInt8) (hz : z.length ≤ 100000) (hb : b < w.heap.size) (hw : w.heap[b]? = some (.cells #[encStr z] 9 (0, 0))) :
    Calls Tryd.prog 36 #[.func (.func 62) #[] #[.pointer (some ⟨b, 0, none⟩)]] w fun e w' => ∃ v : Value, e = .returned v ∧ w'.ownsRow w.heap.size 9 1 v (lnsW z).length ((lnsW z).map encStr) ∧ Below b w w' := by
  go_enter Tryd.func36, Tryd.ntmps36
  have hA := appendLines_any b w z hz hb hw
  go_wp2_with (go_at_call 61; refine hA.mono ?_; rintro e w1 ⟨v, rfl, hrow, hB⟩)
  exact bodyPost_ret (by simp [results, go_sem]) rfl ⟨v, rfl, hrow, hB⟩
set_option maxHeartbeats 2000000 in
theorem lines_any (d : ByteArray) (w : World) : Calls Tryd.prog 37 #[.string d] w fun e w' => e = .returned (.func (.func 62) #[] #[.pointer (some ⟨w.heap.size, 0, none⟩)]) ∧ w' = w.alloc (.cells #[.string d] 9) := by
  go_enter Tryd.func37, Tryd.ntmps37
  go_wp2
  exact bodyPost_ret (by simp [results, go_sem]) rfl ⟨rfl, rfl⟩
end Go.Proofs.YtfdnadiliedikaaDoor
namespace Go.Proofs.YtfdnadiliedikaaDoor
open Go.RowKit Go.Sort

/-- The point of a line, as the specification takes it. -/
def dpP (x : List UInt8) : Option P2 :=
  match x with
  | [_, _, _, _, e, _, _, h] => if digB e = true ∧ digB h = true then some (((e.toNat : Int) - 48), ((h.toNat : Int) - 48)) else none
  | _ => none
def dpsP : List (List UInt8) → Option (List P2)
  | [] => some []
  | x :: xs => match dpP x with
    | none => none
    | some p => (dpsP xs).map (p :: ·)
theorem dpsP_snoc (xs : List (List UInt8)) (x : List UInt8) : dpsP (xs ++ [x]) = match dpsP xs with
    | none => none
    | some l => (dpP x).map (fun p => l ++ [p]) := by
  induction xs with
  | nil => cases h : dpP x <;> simp [dpsP, h]
  | cons y ys ih =>
    simp only [List.cons_append, dpsP]
    cases h : dpP y with
    | none => rfl
    | some p =>
      simp only [ih]
      cases dpsP ys with
      | none => rfl
      | some l => cases dpP x <;> rfl
theorem dpsP_none {xs : List (List UInt8)} {k : Nat} (h : dpsP (xs.take k) = none) : dpsP xs = none := by
  induction xs generalizing k with
  | nil => simpa using h
  | cons y ys ih =>
    cases k with
    | zero => simp [dpsP] at h
    | succ k =>
      simp only [List.take_succ_cons, dpsP] at h ⊢
      cases hy : dpP y with
      | none => rfl
      | some p =>
        rw [hy] at h
        simp only [Option.map_eq_none_iff] at h ⊢
        exact ih h
theorem dpP_8 {a b c d e f g h : UInt8} (h1 : digB e = true ∧ digB h = true) : dpP [a, b, c, d, e, f, g, h] = some (((e.toNat : Int) - 48), ((h.toNat : Int) - 48)) := by unfold dpP; simp only; rw [if_pos h1]
theorem dpP_no {x : List UInt8} (h : x.length ≠ 8) : dpP x = none := by
  unfold dpP
  split
  · simp at h
  · rfl
theorem dpP_bad {a b c d e f g h : UInt8} (h1 : ¬ (digB e = true ∧ digB h = true)) : dpP [a, b, c, d, e, f, g, h] = none := by unfold dpP; simp only; rw [if_neg h1]
theorem cut_free10 (x : List UInt8) (h : (10 : UInt8) ∉ x) : cutL 10 x = [x] := by
  induction x with
  | nil => rfl
  | cons b x ih =>
    have hb : b ≠ 10 := fun e => h (by rw [e]; exact List.mem_cons_self)
    rw [cutL, if_neg hb, ih (fun h' => h (List.mem_cons_of_mem _ h'))]
theorem cut_word10 (x r : List UInt8) (h : (10 : UInt8) ∉ x) : cutL 10 (x ++ 10 :: r) = x :: cutL 10 r := by
  induction x with
  | nil => rw [List.nil_append, cutL, if_pos rfl]
  | cons b x ih =>
    have hb : b ≠ 10 := fun e => h (by rw [e]; exact List.mem_cons_self)
    rw [List.cons_append, cutL, if_neg hb, ih (fun h' => h (List.mem_cons_of_mem _ h'))]
theorem dp_back {k : Nat} {p : P2} (h : okP p = true) : ∃ x, lnL k p = x ++ [10] ∧ (10 : UInt8) ∉ x ∧ dpP x = some p := by
  obtain ⟨x, e, hx, hl⟩ := no10_ln (k := k) h
  refine ⟨x, e, hx, ?_⟩
  obtain ⟨⟨h0, h1⟩, h2, h3⟩ := (okP_iff p).1 h
  have e2 : x = cwL k ++ [32, 88, UInt8.ofNat (48 + p.1.toNat), 32, 89, UInt8.ofNat (48 + p.2.toNat)] := by
    rw [lnL_9 h] at e
    have : (cwL k ++ [32, 88, UInt8.ofNat (48 + p.1.toNat), 32, 89, UInt8.ofNat (48 + p.2.toNat)]) ++ [10] = x ++ [10] := by rw [← e]; simp
    exact (List.append_cancel_right this).symm
  obtain ⟨d1, e1⟩ := digB_of (k := p.1.toNat) (by omega)
  obtain ⟨d3, e3⟩ := digB_of (k := p.2.toNat) (by omega)
  have hp : (((UInt8.ofNat (48 + p.1.toNat)).toNat : Int) - 48, ((UInt8.ofNat (48 + p.2.toNat)).toNat : Int) - 48) = p := Prod.ext (by rw [e1]; simp only; omega) (by rw [e3]; simp only; omega)
  rw [e2]
  unfold cwL
  by_cases hk : k = 0
  · rw [if_pos hk]
    exact (dpP_8 ⟨d1, d3⟩).trans (by rw [hp])
  · rw [if_neg hk]
    exact (dpP_8 ⟨d1, d3⟩).trans (by rw [hp])
theorem cut_cd : ∀ {t : List P2} {k : Nat}, (∀ p ∈ t, okP p = true) → ∃ bs, cutL 10 (cdF k t) = bs ++ [[]] ∧ dpsP bs = some t := by
  intro t
  induction t with
  | nil => intro k _; exact ⟨[], rfl, rfl⟩
  | cons p r ih =>
    intro k h
    obtain ⟨x, e, hx, hd⟩ := dp_back (k := k) (h p List.mem_cons_self)
    obtain ⟨bs, hb, hbs⟩ := ih (k := k + 1) (fun q hq => h q (List.mem_cons_of_mem _ hq))
    refine ⟨x :: bs, ?_, ?_⟩
    · simp only [cdF]
      have e2 : lnL k p ++ cdF (k + 1) r = x ++ 10 :: cdF (k + 1) r := by rw [e]; simp
      rw [e2, cut_word10 _ _ hx, hb]; rfl
    · simp only [dpsP, hd, hbs]; rfl
/-- What the specification reads. -/
def readS (z : List UInt8) (xs : List (List UInt8)) : Option (List P2) :=
  match dpsP xs with
  | none => none
  | some t => if stayV t = true ∧ cdL (turnsL (stayR t)) = z then some (stayR t) else none
theorem readS_eq {z : List UInt8} {xs : List (List UInt8)} {x : List UInt8} (hc : cutL 10 z = xs ++ [x]) : readS z xs = readC z := by
  have dir1 : ∀ l, readS z xs = some l → readC z = some l := fun l h => by
    unfold readS at h
    split at h
    · cases h
    · split at h
      · rename_i t ht hs
        cases h
        have s1 : stayR t = stayL t := by unfold stayR; rw [hs.1, if_pos rfl]
        rw [← hs.2]
        exact readC_back (by rw [s1]; exact stay_path hs.1)
      · cases h
  cases h : readC z with
  | some l =>
    obtain ⟨hp, hz⟩ := readC_only h
    have hok := turns_okP hp
    obtain ⟨bs, hb, hbs⟩ := cut_cd (k := 0) hok
    have hb' : cutL 10 z = bs ++ [[]] := by rw [← hz]; exact hb
    have e : xs = bs := by
      rw [hc] at hb'
      exact (List.append_inj' hb' rfl).1
    obtain ⟨s1, s2⟩ := stayV_turns hp
    have s3 : stayR (turnsL l) = l := by unfold stayR; rw [s1, if_pos rfl, s2]
    unfold readS
    rw [e, hbs]
    simp only
    rw [if_pos ⟨s1, by rw [s3]; exact hz⟩, s3]
  | none =>
    cases h2 : readS z xs with
    | none => rfl
    | some l => rw [dir1 l h2] at h; cases h
theorem readC_long {z : List UInt8} (h : ¬ z.length ≤ 4000) : readC z = none := by unfold readC; rw [if_neg h]
theorem AnsT.widen {b b' t t' : Nat} {W : World} {v : Value} {l : List P2} (h : AnsT b t W v l) (hb : b' ≤ b) (ht : t ≤ t') : AnsT b' t' W v l := by
  rcases h with h | ⟨g, c, e, h1, h2, h3, h4⟩
  · exact .inl h
  · exact .inr ⟨g, c, e, by omega, by omega, h3, h4⟩
set_option maxRecDepth 100000 in
set_option maxHeartbeats 4000000 in
theorem sCodeRead_ok (s : ByteArray) (hs : s.size ≤ 1048576) (w : World) :
    Calls Tryd.prog 18 #[.string s] w fun e w' => ∃ v, e = .returned (.tuple #[v, .bool (readC s.data.toList).isSome]) ∧ AnsT w.heap.size w'.heap.size w' v ((readC s.data.toList).getD []) ∧ Below w.heap.size w w' := by
  obtain ⟨i0, hi0, hz0, hz1, hz2⟩ := info_parts Tryd.infoPt
  have esz : s.data.toList.length = s.size := Array.length_toList
  by_cases h4 : s.size ≤ 4000
  case neg =>
    have e1 : Hid (readC s.data.toList = none) := readC_long (by omega)
    have h4' : ((4000 : Int) < (s.size : Int)) := by omega
    go_enter Tryd.func18, Tryd.ntmps18
    go_wp2_with fail
    go_ret2
    exact ⟨_, by rw [e1.out]; rfl, by rw [e1.out]; exact AnsT.of_own (World.ownsRow_made w (base := w.heap.size) #[] 0 (Nat.le_refl _) (by simp [maxLen]) rfl) rfl, (by repeat (first | exact bw_refl _ | assumption | apply bw_drewN | apply bw_drew | apply bw_alloc | refine bw_set ?_ (by simp) _))⟩
  case pos =>
  have h4' : ¬ ((4000 : Int) < (s.size : Int)) := by omega
  obtain ⟨xs, x, hxs⟩ : ∃ xs x, cutL 10 s.data.toList = xs ++ [x] := ⟨_, _, (List.dropLast_concat_getLast (cutL_ne 10 s.data.toList)).symm⟩
  have HRS : Hid (readS s.data.toList xs = readC s.data.toList) := readS_eq hxs
  have hcut := sCut_big s 10 (by omega) w
  have hsm : ∀ y ∈ xs, y.length ≤ 4000 := fun y hy => by
    have := cutL_word 10 s.data.toList y (by rw [hxs]; exact List.mem_append_left _ hy)
    omega
  have hxn := cutL_len 10 s.data.toList
  rw [hxs, List.length_append, List.length_singleton] at hxn
  rw [hxs, List.length_append, List.length_singleton] at hcut
  obtain ⟨nn, hnn⟩ : ∃ nn, xs.length = nn := ⟨_, rfl⟩
  have HNN : Hid (xs.length = nn) := hnn
  have HSM : Hid (∀ y ∈ xs, y.length ≤ 4000) := hsm
  rw [hnn] at hcut hxn
  have hnb : nn ≤ 4000 := by omega
  clear hxs hsm hnn hxn
  go_enter Tryd.func18, Tryd.ntmps18
  go_wp2_with fail
  refine hcut.mono ?_
  clear hcut
  rintro e w1 ⟨v, rfl, ho, J⟩
  obtain ⟨g, cap, rfl, hg, _⟩ := ho.form (by omega)
  have zg := (ho.lt g rfl).2
  have HC : Hid (∀ j y, xs[j]? = some y → w1.cell? ⟨g, j, none⟩ = some (.string ⟨y.toArray⟩)) := fun j y hy => by
    have hj : j < nn := by
      have := (List.getElem?_eq_some_iff.1 hy).1
      rw [HNN.out] at this; exact this
    rw [ho.cellAt j (by omega)]
    unfold wordsV; rw [List.getElem?_map, List.getElem?_append_left (by rw [HNN.out]; exact hj), hy]; rfl
  have zJ := J.size
  have hown0 := World.ownsRow_made w1 (base := w1.heap.size) (e := 42) (size := 2) #[] 0 (Nat.le_refl _) (by simp [maxLen]) rfl
  have B0 : Below w1.heap.size w1 (w1.alloc (.cells #[] 42)) := (by repeat (first | exact bw_refl _ | assumption | apply bw_drewN | apply bw_drew | apply bw_alloc | refine bw_set ?_ (by simp) _))
  clear ho
  go_wp2_with fail
  go_loopw [5, 6] (fun o i wr => ∃ (k : Nat) (v : Value) (l : List P2), v = o ∧ k ≤ nn ∧ i = .int .i64 k ∧ dpsP (xs.take k) = some l ∧ l.length = k ∧ wr.ownsRow w1.heap.size 42 2 v k (ptCells l) ∧ Below w1.heap.size w1 wr) (fun _ i _ => nn - (intOf i).toNat)
  case atStart => exact ⟨0, _, [], rfl, Nat.zero_le _, rfl, rfl, rfl, hown0, B0⟩
  case round =>
    obtain ⟨k, v, l, rfl, hk, rfl, hwl, hll, hown, hnx⟩ := hrel
    have zr := hnx.size
    have Kr := bw_trans J hnx
    have i0' : (0 : Int) ≤ (k : Int) := Int.natCast_nonneg _
    by_cases hlt : k < nn
    case neg =>
      obtain rfl : k = nn := by omega
      rw [List.take_of_length_le (by rw [HNN.out]; exact Nat.le_refl _)] at hwl
      have A0 := AnsT.of_own hown hll
      obtain ⟨a2, c2, rfl, P2'⟩ := A0.own
      rw [hll] at P2'
      have hSt := sStay_any a2 k c2 l wr (by omega) P2'
      have HRS2 : Hid ((if stayV l = true ∧ cdL (turnsL (stayR l)) = s.data.toList then some (stayR l) else none) = readC s.data.toList) := by
        change _ = _
        rw [← HRS.out]
        unfold readS
        rw [hwl]
      have h400 := stayR_len l
      have HLL : Hid (l.length = k) := hll
      rw [hll]
      clear hwl A0 hown hll HRS
      cases hsv : stayV l with
      | false =>
        have e1 : Hid (readC s.data.toList = none) := by change _ = _; rw [← HRS2.out, if_neg (by rw [hsv]; simp)]
        rw [hsv] at hSt
        clear hsv HRS2
        go_wp2_with fail
        refine hSt.mono ?_
        rintro e w3 ⟨v3, rfl, A3, J3⟩
        have K3 := bw_trans Kr J3
        have z3 := K3.size
        go_wp2_with fail
        go_ret2
        exact ⟨_, by rw [e1.out]; rfl, by rw [e1.out]; exact AnsT.of_own (World.ownsRow_made w3 (base := w.heap.size) #[] 0 (by omega) (by simp [maxLen]) rfl) rfl, K3.alloc (by omega) _⟩
      | true =>
        have hpp : pathP (stayR l) = true := by
          have s1 : stayR l = stayL l := by unfold stayR; rw [hsv, if_pos rfl]
          rw [s1]; exact stay_path hsv
        rw [hsv] at hSt
        by_cases hte : cdL (turnsL (stayR l)) = s.data.toList
        case neg =>
          have e1 : Hid (readC s.data.toList = none) := by change _ = _; rw [← HRS2.out, if_neg (fun h => hte h.2)]
          have hne := ba_ne (a := cdB (turnsL (stayR l))) (b := s) (fun e => hte (by rw [← e]; unfold cdB; simp))
          clear hsv HRS2 hte
          go_wp2_with fail
          refine hSt.mono ?_
          rintro e w3 ⟨v3, rfl, A3, J3⟩
          have K3 := bw_trans Kr J3
          obtain ⟨a3, c3, rfl, P3⟩ := A3.own
          have hW := sWrite_ok a3 (stayR l).length c3 (stayR l) w3 P3 hpp
          go_wp2_with fail
          refine hW.mono ?_
          rintro e w4 ⟨rfl, J4⟩
          have K4 := bw_trans K3 J4
          have z4 := K4.size
          go_wp2_with fail
          go_ret2
          exact ⟨_, by rw [e1.out]; rfl, by rw [e1.out]; exact AnsT.of_own (World.ownsRow_made w4 (base := w.heap.size) #[] 0 (by omega) (by simp [maxLen]) rfl) rfl, K4.alloc (by omega) _⟩
        case pos =>
          have e1 : Hid (readC s.data.toList = some (stayR l)) := by change _ = _; rw [← HRS2.out, if_pos ⟨hsv, hte⟩]
          have heq : cdB (turnsL (stayR l)) = s := by
            unfold cdB; rw [hte]
          clear hsv HRS2 hte
          go_wp2_with fail
          refine hSt.mono ?_
          rintro e w3 ⟨v3, rfl, A3, J3⟩
          have K3 := bw_trans Kr J3
          have A3' := A3
          obtain ⟨a3, c3, rfl, P3⟩ := A3.own
          have hW := sWrite_ok a3 (stayR l).length c3 (stayR l) w3 P3 hpp
          rw [heq] at hW
          have zr3 := Kr.size
          go_wp2_with fail
          refine hW.mono ?_
          rintro e w4 ⟨rfl, J4⟩
          have K4 := bw_trans K3 J4
          have z4 := J4.size
          go_wp2_with fail
          go_ret2
          exact ⟨_, by rw [e1.out]; rfl, by rw [e1.out]; exact (A3'.below J4).widen (by omega) z4, K4⟩
    case pos =>
      obtain ⟨y, hy⟩ : ∃ y, xs[k]? = some y := ⟨xs[k]'(by rw [HNN.out]; exact hlt), List.getElem?_eq_getElem _⟩
      have c0 : wr.cell? ⟨g, k, none⟩ = some (.string ⟨y.toArray⟩) := (hnx.cell (p := ⟨g, k, none⟩) zg).trans (HC.out k y hy)
      have i1 : (k : Int) < (nn : Int) := by omega
      have i2 : (k : Int) + 1 < (nn : Int) + 1 := by omega
      have HT : Hid (xs.take (k + 1) = xs.take k ++ [y]) := by change _ = _; rw [List.take_add_one, hy]; rfl
      have HBad : Hid (dpP y = none → readC s.data.toList = none) := fun h => by
        rw [← HRS.out]
        unfold readS
        rw [dpsP_none (k := k + 1) (by rw [HT.out, dpsP_snoc, hwl, h]; rfl)]
      have hyl := HSM.out y (List.mem_of_getElem? hy)
      clear hy
      have hxz : (ByteArray.mk y.toArray).size = y.length := by simp [ByteArray.size]
      by_cases h8 : y.length = 8
      case neg =>
        have e1 : Hid (readC s.data.toList = none) := HBad.out (dpP_no h8)
        have h8' : ((y.length : Int) != 8) = true := by simp; omega
        clear hwl hown
        go_wp2_with fail
        go_ret2
        exact ⟨_, by rw [e1.out]; rfl, by rw [e1.out]; exact AnsT.of_own (World.ownsRow_made wr (base := w.heap.size) #[] 0 (by omega) (by simp [maxLen]) rfl) rfl, Kr.alloc (by omega) _⟩
      case pos =>
        obtain ⟨b0, b1, b2, b3, a, b5, b6, c, rfl⟩ : ∃ b0 b1 b2 b3 a b5 b6 c, y = [b0, b1, b2, b3, a, b5, b6, c] := by
          match y, h8 with
          | [b0, b1, b2, b3, a, b5, b6, c], _ => exact ⟨_, _, _, _, _, _, _, _, rfl⟩
        have g0 : (ByteArray.mk ([b0, b1, b2, b3, a, b5, b6, c] : List UInt8).toArray).size = 8 := rfl
        have g1 : ∀ h, (ByteArray.mk #[b0, b1, b2, b3, a, b5, b6, c])[4]'h = a := fun _ => rfl
        have g2 : ∀ h, (ByteArray.mk #[b0, b1, b2, b3, a, b5, b6, c])[7]'h = c := fun _ => rfl
        clear h8 hxz hyl
        have zwa : wrap64 (a.toNat : Int) = (a.toNat : Int) := by
          have h1 : a.toNat < 256 := a.toNat_lt
          unfold wrap64; omega
        have zwc : wrap64 (c.toNat : Int) = (c.toNat : Int) := by
          have h1 : c.toNat < 256 := c.toNat_lt
          unfold wrap64; omega
        have hD : ∀ (x : UInt8), inR (x.toNat : Int) 48 57 = digB x := fun x => by
          unfold inR digB; congr 1; apply propext; omega
        have hin0 : ∀ V, Calls Tryd.prog 47 #[.int .i64 (a.toNat : Int), .int .i64 48, .int .i64 57] V fun e w' => e = .returned (.bool (digB a)) ∧ w' = V := fun V => by
          have := in_any (a.toNat : Int) 48 57 V
          rw [hD] at this
          exact this
        have hin2 : ∀ V, Calls Tryd.prog 47 #[.int .i64 (c.toNat : Int), .int .i64 48, .int .i64 57] V fun e w' => e = .returned (.bool (digB c)) ∧ w' = V := fun V => by
          have := in_any (c.toNat : Int) 48 57 V
          rw [hD] at this
          exact this
        have H0 := show Hid _ from hin0
        have H2 := show Hid _ from hin2
        clear hin0 hin2 hD
        by_cases hda : digB a = true
        case neg =>
          have e1 : Hid (readC s.data.toList = none) := HBad.out (dpP_bad (fun h => hda h.1))
          rw [Bool.not_eq_true] at hda
          rw [hda] at H0
          clear hwl hown
          go_wp2_with (go_at_call 47; (with_reducible refine (H0.out _).mono ?_); rintro e wq ⟨rfl, hq⟩; rw [hq]; clear hq wq)
          go_ret2
          exact ⟨_, by rw [e1.out]; rfl, by rw [e1.out]; exact AnsT.of_own (World.ownsRow_made wr (base := w.heap.size) #[] 0 (by omega) (by simp [maxLen]) rfl) rfl, Kr.alloc (by omega) _⟩
        case pos =>
          rw [hda] at H0
          by_cases hdc : digB c = true
          case neg =>
            have e1 : Hid (readC s.data.toList = none) := HBad.out (dpP_bad (fun h => hdc h.2))
            rw [Bool.not_eq_true] at hdc
            rw [hdc] at H2
            clear hwl hown
            go_wp2_with first | (go_at_call 47; (with_reducible refine (H0.out _).mono ?_); rintro e wq ⟨rfl, hq⟩; rw [hq]; clear hq wq) | (go_at_call 47; (with_reducible refine (H2.out _).mono ?_); rintro e wq ⟨rfl, hq⟩; rw [hq]; clear hq wq)
            go_ret2
            exact ⟨_, by rw [e1.out]; rfl, by rw [e1.out]; exact AnsT.of_own (World.ownsRow_made wr (base := w.heap.size) #[] 0 (by omega) (by simp [maxLen]) rfl) rfl, Kr.alloc (by omega) _⟩
          case pos =>
            rw [hdc] at H2
            have hda' : 48 ≤ a.toNat ∧ a.toNat ≤ 57 := by unfold digB at hda; exact of_decide_eq_true hda
            have hdc' : 48 ≤ c.toNat ∧ c.toNat ≤ 57 := by unfold digB at hdc; exact of_decide_eq_true hdc
            have hsn : Hid (dpsP (xs.take (k + 1)) = some (l ++ [((a.toNat : Int) - 48, (c.toNat : Int) - 48)])) := by
              change _ = _
              rw [HT.out, dpsP_snoc, hwl]
              simp only
              rw [dpP_8 ⟨hda, hdc⟩]; rfl
            have zu1 : IntKind.u8.wrap ((a.toNat : Int) - 48) = (a.toNat : Int) - 48 := by unfold IntKind.wrap; simp [IntKind.bits, IntKind.signed]; omega
            have zu2 : IntKind.u8.wrap ((c.toNat : Int) - 48) = (c.toNat : Int) - 48 := by unfold IntKind.wrap; simp [IntKind.bits, IntKind.signed]; omega
            have zv1 : wrap64 ((a.toNat : Int) - 48) = (a.toNat : Int) - 48 := by unfold wrap64; omega
            have zv2 : wrap64 ((c.toNat : Int) - 48) = (c.toNat : Int) - 48 := by unfold wrap64; omega
            have zi1 : IntKind.i64.wrap ((a.toNat : Int) - 48) = (a.toNat : Int) - 48 := wrap_small (by omega) (by omega)
            have zi2 : IntKind.i64.wrap ((c.toNat : Int) - 48) = (c.toNat : Int) - 48 := wrap_small (by omega) (by omega)
            clear hwl hda hdc hda' hdc'
            go_wp2_with first | (go_at_call 47; (with_reducible refine (H0.out _).mono ?_); rintro e wq ⟨rfl, hq⟩; rw [hq]; clear hq wq) | (go_at_call 47; (with_reducible refine (H2.out _).mono ?_); rintro e wq ⟨rfl, hq⟩; rw [hq]; clear hq wq)
            go_region_held3 (fun _ => True) (trivial) (first
              | (refine step_append_more (by rfl) _ _ _ (by rfl) w1.heap.size 42 i0 _ 2 16 Tryd.underlying23 hi0 hz0 hz1 hz2 rfl (by omega) _ k _ (by rfl) (hown.alloc _) ⟨wr.heap.size, 0, none⟩ 1 1 [.int .i64 ((a.toNat : Int) - 48), .int .i64 ((c.toNat : Int) - 48)] (by rfl) (by rfl) (World.news_of_block (cs := #[.int .i64 ((a.toNat : Int) - 48), .int .i64 ((c.toNat : Int) - 48)]) (t := 42) (fr := (0, 0)) (heap_alloc_new wr _)) (by simp [Value.oneCell']) (by omega) (by simp [maxLen]; omega) (by omega) (by simp; omega) ?_; intro gq cq w7 hown1 hgr2 hgq))
            all_goals
              have B1 : Below wr.heap.size wr ((wr.alloc (.cells #[.int .i64 ((a.toNat : Int) - 48), .int .i64 ((c.toNat : Int) - 48)] 42)).drew) := (by repeat (first | exact bw_refl _ | assumption | apply bw_drewN | apply bw_drew | apply bw_alloc | refine bw_set ?_ (by simp) _))
              have B2 := (bw_trans hnx B1).grown hgr2 (by simp; omega) (fun j e => (hown.lt j e).1)
              go_wp2_with fail
              go_roundw
              case rel => exact ⟨k + 1, _, l ++ [((a.toNat : Int) - 48, (c.toNat : Int) - 48)], rfl, by omega, by first | rfl | simp, hsn.out, by simp [hll], by rw [ptCells_snoc]; exact hown1, B2⟩
              case measure => simp [intOf]; omega
end Go.Proofs.YtfdnadiliedikaaDoor
namespace Go.Proofs.YtfdnadiliedikaaDoor
open Go.RowKit Go.Sort

set_option maxRecDepth 100000 in
set_option maxHeartbeats 2000000 in
theorem slEq_any (a c : Option Addr) (n m cap cap' : Nat) (l q : List P2) (w : World) (hA : Pts w.heap.size w a n l) (hC : Pts w.heap.size w c m q) (hn : n ≤ 1048576) :
    Calls Tryd.prog 39 #[.slice a n cap, .slice c m cap'] w fun e w' => e = .returned (.bool (decide (l = q))) ∧ Below w.heap.size w w' := by
  by_cases hnm : n = m
  case neg =>
    have e1 : Hid (decide (l = q) = false) := by
      change _ = _
      apply decide_eq_false
      intro e; apply hnm; rw [← hA.1, ← hC.1, e]
    have h1 : ((n : Int) != (m : Int)) = true := by simp; omega
    rw [e1.out]
    go_enter Tryd.func39, Tryd.ntmps39
    go_wp2_with fail
    go_ret
    exact ⟨rfl, bw_refl _⟩
  case pos =>
  subst hnm
  have hl := hA.1
  have hq := hC.1
  go_enter Tryd.func39, Tryd.ntmps39
  go_wp2_with fail
  go_loopw [13] (fun i wr => ∃ k : Nat, k ≤ n ∧ i = .int .i64 k ∧ (∀ j, j < k → ptAt l j = ptAt q j) ∧ Below w.heap.size w wr) (fun i _ => n - (intOf i).toNat)
  case atStart => exact ⟨0, Nat.zero_le _, rfl, fun j hj => absurd hj (Nat.not_lt_zero _), bw_refl _⟩
  case round =>
    obtain ⟨k, hk, rfl, hall, hnx⟩ := hrel
    by_cases hlt : k < n
    · rcases hA.2 with h0 | ⟨b, off, rfl, hbl, hc⟩
      · omega
      rcases hC.2 with h0 | ⟨b', off', rfl, hbl', hc'⟩
      · omega
      have d0 := cell_regrown ((hnx.cell (p := ⟨b, off + k * 2, none⟩) hbl).trans (hc k hlt).1)
      have d1 := cell_regrown ((hnx.cell (p := ⟨b, off + k * 2 + 1, none⟩) hbl).trans (hc k hlt).2)
      have d2 := cell_regrown ((hnx.cell (p := ⟨b', off' + k * 2, none⟩) hbl').trans (hc' k hlt).1)
      have d3 := cell_regrown ((hnx.cell (p := ⟨b', off' + k * 2 + 1, none⟩) hbl').trans (hc' k hlt).2)
      have i0 : (0 : Int) ≤ (k : Int) := Int.natCast_nonneg _
      have i1 : (k : Int) < (n : Int) := by omega
      have HALL : Hid _ := hall
      clear hc hc' hall
      by_cases hx : (ptAt l k).1 = (ptAt q k).1
      case neg =>
        have e1 : Hid (decide (l = q) = false) := by
          change _ = _; apply decide_eq_false; intro e; exact hx (by rw [e])
        have b1 : ((ptAt l k).1 == (ptAt q k).1) = false := by simpa using hx
        have b2 : decide ((ptAt l k).1 = (ptAt q k).1) = false := by simpa using hx
        go_wp2_with fail
        refine wp_region_quiet_below (by kernel_rfl) (by kernel_rfl) ?_
        repeat (first | go_big_quiet_step (fail))
        refine wpQuiet_nil ?_
        intro _ hw'
        obtain ⟨⟨dq, osq⟩, hw''⟩ := hw'
        subst hw''
        have J := below_regrown wr dq osq
        generalize grow (redrawn wr dq) osq = w1 at J ⊢
        go_wp2_with fail
        go_ret
        exact ⟨by rw [e1.out]; rfl, bw_trans hnx J⟩
      case pos =>
      by_cases hy : (ptAt l k).2 = (ptAt q k).2
      case neg =>
        have e1 : Hid (decide (l = q) = false) := by
          change _ = _; apply decide_eq_false; intro e; exact hy (by rw [e])
        have b1 : ((ptAt l k).2 == (ptAt q k).2) = false := by simpa using hy
        have b2 : decide ((ptAt l k).2 = (ptAt q k).2) = false := by simpa using hy
        rw [← hx] at d2
        go_wp2_with fail
        refine wp_region_quiet_below (by kernel_rfl) (by kernel_rfl) ?_
        repeat (first | go_big_quiet_step (fail))
        refine wpQuiet_nil ?_
        intro _ hw'
        obtain ⟨⟨dq, osq⟩, hw''⟩ := hw'
        subst hw''
        have J := below_regrown wr dq osq
        generalize grow (redrawn wr dq) osq = w1 at J ⊢
        go_wp2_with fail
        go_ret
        exact ⟨by rw [e1.out]; rfl, bw_trans hnx J⟩
      case pos =>
      have hpt : ptAt l k = ptAt q k := Prod.ext hx hy
      have HPT : Hid (ptAt l k = ptAt q k) := hpt
      rw [← hpt] at d2 d3
      clear hx hy hpt
      go_wp2_with fail
      refine wp_region_quiet_below (by kernel_rfl) (by kernel_rfl) ?_
      repeat (first | go_big_quiet_step (fail))
      refine wpQuiet_nil ?_
      intro _ hw'
      obtain ⟨⟨dq, osq⟩, hw''⟩ := hw'
      subst hw''
      have J := below_regrown wr dq osq
      generalize grow (redrawn wr dq) osq = w1 at J ⊢
      go_wp2_with fail
      go_roundw
      case rel =>
        refine ⟨k + 1, by omega, by simp, fun j hj => ?_, bw_trans hnx J⟩
        rcases Nat.lt_or_ge j k with h | h
        · exact HALL.out j h
        · obtain rfl : j = k := by omega
          exact HPT.out
      case measure => simp [intOf]; omega
    · obtain rfl : k = n := by omega
      have e1 : Hid (decide (l = q) = true) := by
        change _ = _; apply decide_eq_true; exact pts_ext (by rw [hl, hq]) (by rw [hl]; exact hall)
      go_wp2_with fail
      go_ret
      exact ⟨by rw [e1.out]; rfl, hnx⟩
end Go.Proofs.YtfdnadiliedikaaDoor
namespace Go.Proofs.YtfdnadiliedikaaDoor
open Go.RowKit Go.Sort Go.Conc Go.Shelf

def lnsX (z : List UInt8) : List ByteArray := (lnsW z).map fun y => ⟨y.toArray⟩
theorem lnsX_len (z : List UInt8) : (lnsX z).length = (lnsW z).length := List.length_map _
theorem lnsX_enc (z : List UInt8) : (lnsW z).map encStr = (lnsX z).map Value.string := by
  unfold lnsX; rw [List.map_map]; rfl
theorem strRow_own {W : World} {base n : Nat} {v : Value} {xs : List ByteArray} (h : W.ownsRow base 9 1 v n (xs.map Value.string)) (hl : xs.length = n) : ∃ a c, v = .slice a n c ∧ StrRow W a n xs := by
  rcases h.2 with ⟨e, h0⟩ | ⟨g, cap, cur, e, hb, hg, r⟩
  · exact ⟨none, 0, by rw [e, h0], hl, .inl h0⟩
  · refine ⟨some ⟨g, 0, none⟩, cap, e, hl, .inr ⟨g, rfl, (Array.getElem?_eq_some_iff.1 hg).1, fun j x hx => ?_⟩⟩
    subst e
    have hj := (List.getElem?_eq_some_iff.1 hx).1
    rw [h.cellAt j (by omega), List.getElem?_map, hx]; rfl
theorem slice_form {W : World} {base n k : Nat} {t : TypeId} {v : Value} {cs : List Value} (h : W.ownsRow base t k v n cs) : ∃ a c, v = .slice a n c := by
  rcases h.2 with ⟨e, h0⟩ | ⟨g, cap, cur, e, _⟩
  · exact ⟨none, 0, by rw [e, h0]⟩
  · exact ⟨_, cap, e⟩
theorem AnsT.ownc {base top : Nat} {W : World} {v : Value} {l : List P2} (h : AnsT base top W v l) : ∃ a c, v = .slice a l.length c ∧ l.length ≤ c ∧ Pts W.heap.size W a l.length l := by
  rcases h with ⟨rfl, a, c, rfl⟩ | ⟨g, c, rfl, hb, ht, hc, hB⟩
  · exact ⟨a, c, rfl, Nat.zero_le _, rfl, .inl rfl⟩
  · exact ⟨_, c, rfl, hc, hB.pts' rfl⟩
theorem lnsF_mem : ∀ (n : Nat) (z y : List UInt8), y ∈ lnsF n z → y.length ≤ z.length
  | 0, z, y, h => by simp [lnsF] at h
  | n + 1, z, y, h => by
    simp only [lnsF] at h
    split at h
    · cases h
    · split at h
      · rcases List.mem_cons.1 h with rfl | h
        · rw [List.length_take]; omega
        · have := lnsF_mem n _ y h
          rw [List.length_drop] at this; omega
      · rw [List.mem_singleton.1 h]; exact Nat.le_refl _
set_option maxRecDepth 100000 in
set_option maxHeartbeats 4000000 in
theorem codeRead_any (s : ByteArray) (_hs : s.size ≤ 1048576) (w : World) (hL : Lib4 w) :
    Calls Tryd.prog 13 #[.string s] w fun e w' => ∃ v, e = .returned (.tuple #[v, .bool (readC s.data.toList).isSome]) ∧ AnsT w.heap.size w'.heap.size w' v ((readC s.data.toList).getD []) ∧ Below w.heap.size w w' := by
  obtain ⟨i0, hi0, hz0, hz1, hz2⟩ := info_parts Tryd.infoPt
  have esz : s.data.toList.length = s.size := Array.length_toList
  by_cases h4 : s.size ≤ 4000
  case neg =>
    have e1 : Hid (readC s.data.toList = none) := readC_long (by omega)
    have h4' : ((4000 : Int) < (s.size : Int)) := by omega
    go_enter Tryd.func13, Tryd.ntmps13
    go_wp2_with fail
    go_ret2
    exact ⟨.slice none 0 0, by rw [e1.out]; rfl, by have h := e1.out; simp only [h]; exact .inl ⟨rfl, none, 0, rfl⟩, bw_refl _⟩
  case pos =>
  have h4' : ¬ ((4000 : Int) < (s.size : Int)) := by omega
  obtain ⟨z, hz⟩ : ∃ z, s.data.toList = z := ⟨_, rfl⟩
  have hzs : encStr z = .string s := by rw [← hz]
  rw [hz] at esz ⊢
  have hlen : (lnsW z).length ≤ z.length := lnsW_len _ _
  have B1 : Below w.heap.size w (w.alloc (.cells #[.string s] 9)) := (by repeat (first | exact bw_refl _ | assumption | apply bw_drewN | apply bw_drew | apply bw_alloc | refine bw_set ?_ (by simp) _))
  have s1 : (w.alloc (.cells #[.string s] 9)).heap.size = w.heap.size + 1 := by simp
  have hCol := collectLines_any w.heap.size (w.alloc (.cells #[.string s] 9)) z (by omega) (by omega) (by rw [hzs]; exact heap_new w _)
  obtain ⟨n, hn⟩ : ∃ n, (lnsW z).length = n := ⟨_, rfl⟩
  obtain ⟨xs, hxs⟩ : ∃ xs, lnsX z = xs := ⟨_, rfl⟩
  have HXL : Hid (xs.length = n) := by change _ = _; rw [← hxs, lnsX_len, hn]
  have HN : Hid ((lnsW z).length = n) := hn
  have hz4 : z.length ≤ 4000 := by omega
  have HRC : Hid (readC z = match turnsP 0 (lnsW z) with | none => none | some t => if stayV t = true ∧ turnsV (stayR t) = t then some (stayR t) else none) := by
    change _ = _
    unfold readC
    exact (if_pos hz4).trans rfl
  have HY : Hid (∀ y ∈ lnsW z, y.length ≤ 4000) := fun y hy => Nat.le_trans (lnsF_mem _ z y hy) hz4
  have HX : Hid (xs = (lnsW z).map fun y => ⟨y.toArray⟩) := hxs.symm
  rw [lnsX_enc, hxs, hn] at hCol
  rw [hn] at hlen
  clear hn hxs hzs hz
  refine calls_of_wpN Tryd.func13 rfl ?_
  simp only [Tryd.f13, List.size_toArray, List.length_cons, List.length_nil, Nat.reduceAdd, Nat.reduceSub, Array.replicate_succ, Array.replicate_zero, List.push_toArray, List.append_toArray, List.nil_append, List.cons_append]
  refine wpN_seq (wpN_of ?_)
  go_wp2_with fail
  refine wpN_seq (wpN_of ?_)
  go_wp2_with fail
  refine wpN_seq (wpN_of ?_)
  go_wp2_with fail
  refine wpN_seq (wpN_seq (wpN_of ?_))
  have hLn := lines_any s w
  go_wp2_with fail
  refine hLn.mono ?_
  rintro e v1 ⟨rfl, hv1⟩
  rw [← hv1] at hCol B1 s1
  clear hv1 hLn
  go_wp2_with fail
  refine hCol.mono ?_
  clear hCol
  rintro e w3 ⟨v3, rfl, hown3, J3⟩
  have K3 := B1.trans J3
  have z3 := J3.size
  obtain ⟨a, c, rfl, hSR⟩ := strRow_own hown3 HXL.out
  have hSent := sent_ok a n c xs w3 hSR (by omega)
  clear hown3 hSR
  go_wp2_with fail
  refine hSent.mono ?_
  clear hSent
  rintro e w4 ⟨ch, rfl, hch, hcb, J4⟩
  have K4 := bw_trans K3 J4
  have hcl := blk_lt hch
  go_wp2_with fail
  refine wpN_block ?_
  have hch0 : w4.heap[ch]? = some (.chan n ((xs.drop 0).map Value.string).toArray true n 0 false) := by rw [List.drop_zero]; exact hch
  clear hch
  refine wpN_loop n (fun j a' w' => ∃ (q : Nat) (v : Value) (l : List P2) (x5 x6 x7 x17 x18 x19 x20 x21 x22 x23 x24 x25 x26 x27 x28 x29 x30 x31 x32 : Value), q + j = n ∧ a' = { tmps := #[.string s, undef, .slice none 0 0, .bool false, v, x5, x6, x7, undef, undef, .string s, .int .i64 (s.size : Int), .bool (decide ((4000 : Int) < (s.size : Int))), .string s, .func (.func 62) #[] #[.pointer (some ⟨w.heap.size, 0, none⟩)], .slice a n c, .chan (some ch), x17, x18, x19, x20, x21, x22, x23, x24, x25, x26, x27, x28, x29, x30, x31, x32, undef, undef, undef, undef, undef, undef, undef, undef, undef, undef, undef, undef, undef, undef, undef], defers := [] } ∧ w'.heap[ch]? = some (.chan n ((xs.drop q).map Value.string).toArray true n q false) ∧ turnsP 0 ((lnsW z).take q) = some l ∧ l.length = q ∧ w'.ownsRow w4.heap.size 42 2 v q (ptCells l) ∧ Below w.heap.size w w' ∧ w4.heap.size ≤ w'.heap.size) ?_ ?_ ?_
  · exact ⟨0, .slice none 0 0, [], _, _, _, _, _, _, _, _, _, _, _, _, _, _, _, _, _, _, _, by omega, rfl, hch0, rfl, rfl, ⟨rfl, .inl ⟨rfl, rfl⟩⟩, K4, Nat.le_refl _⟩
  · rintro j a' w' ⟨q, v, l, x5, x6, x7, x17, x18, x19, x20, x21, x22, x23, x24, x25, x26, x27, x28, x29, x30, x31, x32, hq, rfl, hcw, hTP, hll, hown, hBw, hzz⟩
    have hqn : q < n := by omega
    obtain ⟨av, cv, rfl⟩ : ∃ av cv, v = .slice av q cv := slice_form hown
    obtain ⟨y, hy⟩ : ∃ y, (lnsW z)[q]? = some y := ⟨(lnsW z)[q]'(by rw [HN.out]; exact hqn), List.getElem?_eq_getElem _⟩
    have hdr : xs.drop q = (⟨y.toArray⟩ : ByteArray) :: xs.drop (q + 1) := by
      have h3 : q < xs.length := by rw [HXL.out]; exact hqn
      have h4 : xs[q]? = some (⟨y.toArray⟩ : ByteArray) := by rw [HX.out, List.getElem?_map, hy]; rfl
      rw [List.drop_eq_getElem_cons h3, (List.getElem?_eq_some_iff.1 h4).2]
    rw [hdr] at hcw
    clear hdr
    have hyl := HY.out y (List.mem_of_getElem? hy)
    have HT : Hid (turnsP 0 ((lnsW z).take (q + 1)) = (lineP q y).map (fun p => l ++ [p])) := by
      change _ = _
      have h5 : ((lnsW z).take q).length = q := by rw [List.length_take, HN.out]; omega
      rw [List.take_add_one, hy]
      show turnsP 0 ((lnsW z).take q ++ [y]) = _
      rw [turnsP_snoc, hTP, h5]; simp only [Nat.zero_add]
    clear hy
    have zB := hBw.size
    obtain ⟨rs, hrs⟩ : ∃ rs, xs.drop (q + 1) = rs := ⟨_, rfl⟩
    have HRS : Hid (xs.drop (q + 1) = rs) := hrs
    rw [hrs] at hcw
    clear hrs
    refine wpN_seq (wpN_region ?_)
    simp only [List.size_toArray, List.length_cons, List.length_nil, Nat.reduceAdd, List.range, List.range.loop]
    refine wpM_recv (ok := true) (c := ch) (z := .string ⟨#[]⟩) rfl (by rfl) (by simp [go_sem, rcase]) hcw (by simp) ?_
    have hlc := blk_lt hcw
    have hext : (((⟨y.toArray⟩ : ByteArray) :: rs).map Value.string).toArray.extract 1 (((⟨y.toArray⟩ : ByteArray) :: rs).map Value.string).toArray.size = (rs.map Value.string).toArray := by simp [List.take_of_length_le]
    have hget : (((⟨y.toArray⟩ : ByteArray) :: rs).map Value.string).toArray.getD 0 undef = .string ⟨y.toArray⟩ := by simp
    rw [hext, hget]
    simp only [got, if_true]
    have OC : Only ch w' (w'.setChan ch n (rs.map Value.string).toArray true n (q + 1) false) := ⟨rfl, rfl, rfl, by simp [World.setChan], fun i hi _ => by simp only [World.setChan]; rw [Array.getElem?_setIfInBounds_ne (Ne.symm hi)]⟩
    have hV1 := heap_setChan w' ch n (rs.map Value.string).toArray true n (q + 1) false hlc
    have hV2 := below_setChan hBw (show w.heap.size ≤ ch by have := K3.size; omega) n (rs.map Value.string).toArray true n (q + 1) false
    have hV3 : (w'.setChan ch n (rs.map Value.string).toArray true n (q + 1) false).ownsRow w4.heap.size 42 2 (.slice av q cv) q (ptCells l) := hown.kept (row := some ch) ⟨OC.os, OC.tape, OC.output, OC.size, fun i hi hne => OC.block i (fun e => hne (by rw [e])) hi⟩ (.inr fun e => absurd (hown.lt ch e).1 (by omega))
    have hV4 : w4.heap.size ≤ (w'.setChan ch n (rs.map Value.string).toArray true n (q + 1) false).heap.size := Nat.le_trans hzz OC.size
    clear hext hget OC hcw hown hBw
    generalize w'.setChan ch n (rs.map Value.string).toArray true n (q + 1) false = V at hV1 hV2 hV3 hV4 ⊢
    refine wpM_value (w' := V) (v := .bool true) rfl (by rfl) (by simp [go_sem, Act.put]) ?_
    refine wpM_done ?_
    simp only [Exit.then]
    have hC := codeLineRead_any q y (by omega) V (hL.below hV2)
    have zV := hV2.size
    have hclt : ch < V.heap.size := by omega
    have j0 : (0 : Int) ≤ (q : Int) := Int.natCast_nonneg _
    cases hlp : lineP q y with
    | none =>
      rw [hlp] at hC
      have e1 : Hid (readC z = none) := by
        change _ = _
        rw [HRC.out, turnsP_none (j := q + 1) (by rw [HT.out, hlp]; rfl)]
      clear HT hTP HRC
      refine wpN_of ?_
      go_wp2_with fail
      refine hC.mono ?_
      clear hC
      rintro e w5 ⟨rfl, J5⟩
      have K5 := bw_trans hV2 J5
      have z5 := K5.size
      go_wp2_with fail
      refine bodyPost_ret (v := .tuple #[.slice none 0 0, .bool false]) (by simp [results, go_sem]) rfl ?_
      exact ⟨.slice none 0 0, by rw [e1.out]; rfl, by have h := e1.out; simp only [h]; exact .inl ⟨rfl, none, 0, rfl⟩, (by repeat (first | exact bw_refl _ | assumption | apply bw_drewN | apply bw_drew | apply bw_alloc | refine bw_set ?_ (by simp) _))⟩
    | some p =>
      rw [hlp] at hC
      have hn1 : Hid (turnsP 0 ((lnsW z).take (q + 1)) = some (l ++ [p])) := by
        change _ = _
        rw [HT.out, hlp]; rfl
      have hl1 : Hid ((l ++ [p]).length = q + 1) := by change _ = _; rw [List.length_append, hll]; rfl
      have hsn : Hid (ptCells (l ++ [p]) = ptCells l ++ [.int .i64 p.1, .int .i64 p.2]) := ptCells_snoc l p
      have hpv : ptV (some p) = p := rfl
      rw [hpv] at hC
      clear HT hTP hll
      refine wpN_of ?_
      go_wp2_with fail
      refine hC.mono ?_
      clear hC
      rintro e w5 ⟨rfl, J5⟩
      have K5 := bw_trans hV2 J5
      have z5 := J5.size
      have hc5 : w5.heap[ch]? = some (.chan n (rs.map Value.string).toArray true n (q + 1) false) := keep J5 hV1
      have hown5 := hV3.kept (w' := w5) (row := none) ⟨J5.os, J5.tape, J5.output, J5.size, fun j hj _ => J5.block j hj⟩ (Classical.em _)
      obtain ⟨X, hX, BX, TX⟩ : ∃ X, X = w5.alloc (.cells #[.int .i64 p.1, .int .i64 p.2] 42) ∧ Below w5.heap.size w5 X ∧ X.heap[w5.heap.size]? = some (.cells #[.int .i64 p.1, .int .i64 p.2] 42) := ⟨_, rfl, (by repeat (first | exact bw_refl _ | assumption | apply bw_drewN | apply bw_drew | apply bw_alloc | refine bw_set ?_ (by simp) _)), heap_new _ _⟩
      have hownX : X.ownsRow w4.heap.size 42 2 (.slice av q cv) q (ptCells l) := by rw [hX]; exact hown5.alloc _
      have hcX := keep BX hc5
      have KX := bw_trans K5 BX
      have zX := BX.size
      clear hV1 hV2 hV3 hown5 hc5 J5 K5
      go_upto_region 10 with fail
      rw [← hX]
      clear hX BX
      obtain ⟨t0, t1⟩ := blk_2 TX
      go_wp2_with (at_builtin; refine wpList_append_lies _ rfl _ _ _ rfl w4.heap.size 42 i0 _ 2 16 Tryd.underlying23 hi0 hz0 hz1 hz2 rfl (by omega) _ _ _ rfl (hownX.alloc _) ⟨X.heap.size, 0, none⟩ 1 1 [.int .i64 p.1, .int .i64 p.2] rfl rfl (World.news_of_block (cs := #[.int .i64 p.1, .int .i64 p.2]) (t := 42) (fr := (0, 0)) (heap_alloc_new X _)) (by simp [Value.oneCell']) (by omega) (by simp [maxLen]; omega) (by omega) (by simp; omega) (X.heap.size + 1) (by simp) ?_; intro gg cap' w8 hown1 hgrow hat hlt1)
      have zc := blk_lt hcX
      have hc8 : w8.heap[ch]? = some (.chan n (rs.map Value.string).toArray true n (q + 1) false) := (hgrow.block ch (by simp; omega) (fun e => absurd (hownX.lt ch e.symm).1 (by omega))).trans ((Below.heap_alloc _ _ ch zc).trans hcX)
      have z8 := hgrow.size
      have zw := KX.size
      have K8 : Below w.heap.size w w8 := (KX.alloc (by omega) _).grown hgrow (by simp; omega) (fun j e => by have := (hownX.lt j e).1; have := K4.size; omega)
      exact ⟨q + 1, _, l ++ [p], _, _, _, _, _, _, _, _, _, _, _, _, _, _, _, _, _, _, _, by omega, rfl, by rw [HRS.out]; exact hc8, hn1.out, hl1.out, by rw [hsn.out]; exact hown1, K8, by rw [World.size_alloc] at z8; omega⟩
  · rintro a' w' ⟨q, v, l, x5, x6, x7, x17, x18, x19, x20, x21, x22, x23, x24, x25, x26, x27, x28, x29, x30, x31, x32, hq, rfl, hcw, hTP, hll, hown, hBw, hzz⟩
    obtain rfl : q = n := by omega
    have hdr : xs.drop q = [] := List.drop_eq_nil_of_le (by rw [HXL.out]; exact Nat.le_refl _)
    rw [hdr] at hcw
    rw [List.take_of_length_le (by rw [HN.out]; exact Nat.le_refl _)] at hTP
    have A0 := AnsT.of_own hown hll
    obtain ⟨av, cv, rfl, hcv, P0⟩ := A0.ownc
    rw [hll] at P0 hcv
    have hSt := codeStay_any av q cv l w' (by omega) hcv P0
    have HR2 : Hid ((if stayV l = true ∧ turnsV (stayR l) = l then some (stayR l) else none) = readC z) := by
      change _ = _
      rw [HRC.out, hTP]
    have h400 := stayR_len l
    have HLL : Hid (l.length = q) := hll
    rw [hll]
    clear hdr hTP A0 hown hll HRC
    refine wpN_seq (wpN_region ?_)
    simp only [List.size_toArray, List.length_cons, List.length_nil, Nat.reduceAdd, List.range, List.range.loop]
    refine wpM_shut (ok := true) (c := ch) (z := .string ⟨#[]⟩) rfl (by rfl) (by simp [go_sem, rcase]) hcw ?_
    simp only [got, if_true]
    refine wpM_value (w' := w') (v := .bool false) rfl (by rfl) (by simp [go_sem, Act.put]) ?_
    refine wpM_done ?_
    simp only [Exit.then]
    clear hcw
    refine wpN_of ?_
    cases hsv : stayV l with
    | false =>
      have e1 : Hid (readC z = none) := by change _ = _; rw [← HR2.out, if_neg (by rw [hsv]; simp)]
      rw [hsv] at hSt
      clear hsv HR2
      go_wp2_with fail
      refine wpN_of ?_
      go_wp2_with fail
      refine hSt.mono ?_
      rintro e w5 ⟨v5, rfl, A5, J5⟩
      have K5 := bw_trans hBw J5
      go_wp2_with fail
      refine bodyPost_ret (v := .tuple #[.slice none 0 0, .bool false]) (by simp [results, go_sem]) rfl ?_
      exact ⟨.slice none 0 0, by rw [e1.out]; rfl, by have h := e1.out; simp only [h]; exact .inl ⟨rfl, none, 0, rfl⟩, K5⟩
    | true =>
      rw [hsv] at hSt
      by_cases hte : turnsV (stayR l) = l
      case neg =>
        have e1 : Hid (readC z = none) := by change _ = _; rw [← HR2.out, if_neg (fun h => hte h.2)]
        clear hsv HR2
        go_wp2_with fail
        refine wpN_of ?_
        go_wp2_with fail
        refine hSt.mono ?_
        rintro e w5 ⟨v5, rfl, A5, J5⟩
        have K5 := bw_trans hBw J5
        obtain ⟨a5, c5, rfl, hc5, P5⟩ := A5.ownc
        have hTu := codeTurns_any a5 (stayR l).length c5 (stayR l) w5 (by omega) hc5 P5
        have P0' := (P0.below J5).grow J5.size
        go_wp2_with fail
        refine hTu.mono ?_
        rintro e w6 ⟨v6, rfl, A6, J6⟩
        have K6 := bw_trans K5 J6
        obtain ⟨a6, c6, rfl, hc6, P6⟩ := A6.ownc
        have h6 := turnsV_len (stayR l)
        have hEq := slEq_any a6 av (turnsV (stayR l)).length q c6 cv (turnsV (stayR l)) l w6 P6 ((P0'.below J6).grow J6.size) (by omega)
        rw [decide_eq_false hte] at hEq
        clear hte
        go_wp2_with fail
        refine hEq.mono ?_
        rintro e w7 ⟨rfl, J7⟩
        have K7 := bw_trans K6 J7
        go_wp2_with fail
        refine bodyPost_ret (v := .tuple #[.slice none 0 0, .bool false]) (by simp [results, go_sem]) rfl ?_
        exact ⟨.slice none 0 0, by rw [e1.out]; rfl, by have h := e1.out; simp only [h]; exact .inl ⟨rfl, none, 0, rfl⟩, K7⟩
      case pos =>
        have e1 : Hid (readC z = some (stayR l)) := by change _ = _; rw [← HR2.out, if_pos ⟨hsv, hte⟩]
        clear hsv HR2
        go_wp2_with fail
        refine wpN_of ?_
        go_wp2_with fail
        refine hSt.mono ?_
        rintro e w5 ⟨v5, rfl, A5, J5⟩
        have K5 := bw_trans hBw J5
        have A5' := A5
        obtain ⟨a5, c5, rfl, hc5, P5⟩ := A5.ownc
        have hTu := codeTurns_any a5 (stayR l).length c5 (stayR l) w5 (by omega) hc5 P5
        have P0' := (P0.below J5).grow J5.size
        go_wp2_with fail
        refine hTu.mono ?_
        rintro e w6 ⟨v6, rfl, A6, J6⟩
        have K6 := bw_trans K5 J6
        obtain ⟨a6, c6, rfl, hc6, P6⟩ := A6.ownc
        have h6 := turnsV_len (stayR l)
        have hEq := slEq_any a6 av (turnsV (stayR l)).length q c6 cv (turnsV (stayR l)) l w6 P6 ((P0'.below J6).grow J6.size) (by omega)
        rw [decide_eq_true hte] at hEq
        clear hte
        go_wp2_with fail
        refine hEq.mono ?_
        rintro e w7 ⟨rfl, J7⟩
        have K7 := bw_trans K6 J7
        have JJ := bw_trans J6 J7
        have zz := JJ.size
        have zb := hBw.size
        go_wp2_with fail
        refine bodyPost_ret (v := .tuple #[.slice a5 (stayR l).length c5, .bool true]) (by simp [results, go_sem]) rfl ?_
        exact ⟨_, by rw [e1.out]; rfl, by have h := e1.out; simp only [h]; exact (A5'.below JJ).widen (by omega) zz, K7⟩
end Go.Proofs.YtfdnadiliedikaaDoor
namespace Go.Proofs.YtfdnadiliedikaaDoor
open Go.RowKit Go.Sort

set_option maxHeartbeats 400000 in
theorem luSq_one (p q : P2) (w : World) (hp : okP p = true) (hq : okP q = true) :
    Calls Tryd.prog 43 #[.agg #[.int .i64 p.1, .int .i64 p.2], .agg #[.int .i64 q.1, .int .i64 q.2]] w fun e w' => e = .returned (.int .i64 (dt p.1 p.2 q.1 q.2 q.1 q.2)) ∧ Below w.heap.size w w' := by
  obtain ⟨px, py⟩ := p
  obtain ⟨qx, qy⟩ := q
  have hp := (ptB_iff _ _).1 hp
  have hq := (ptB_iff _ _).1 hq
  simp only at hp hq
  have h1 := prod_bd (x := px - qx) (y := px - qx) (by omega) (by omega) (by omega) (by omega)
  have h2 := prod_bd (x := py - qy) (y := py - qy) (by omega) (by omega) (by omega) (by omega)
  have h3 := prod_bd (x := qx - px) (y := qx - px) (by omega) (by omega) (by omega) (by omega)
  have h4 := prod_bd (x := qy - py) (y := qy - py) (by omega) (by omega) (by omega) (by omega)
  have e1 : Hid (dt px py qx qy qx qy = (px - qx) * (px - qx) + (py - qy) * (py - qy)) := by change _ = _; unfold dt; grind
  go_enter Tryd.func43, Tryd.ntmps43
  go_wp2_with fail
  go_ret
  exact ⟨by rw [e1.out]; rfl, (by repeat (first | exact bw_refl _ | assumption | apply bw_drewN | apply bw_drew | apply bw_alloc | refine bw_set ?_ (by simp) _))⟩
set_option maxRecDepth 100000 in
set_option maxHeartbeats 4000000 in
theorem luPath_ok (a : Option Addr) (np cp : Nat) (l : List P2) (w : World) (hP : Pts w.heap.size w a np l) (hp : pathP l = true) :
    Calls Tryd.prog 16 #[.slice a np cp] w fun e W' => e = .returned (.bool true) ∧ Below w.heap.size w W' := by
  obtain ⟨hlen, hP⟩ := hP
  have HL : Hid (l.length = np) := hlen
  obtain ⟨⟨hl1, hl2⟩, hok, hbs⟩ := pathP_iff.1 hp
  have HOK : Hid (∀ i, i < np → okP (ptAt l i) = true) := fun i hi => hok i (by rw [hlen]; exact hi)
  have HBS : Hid (∀ i, i + 1 < np → besP (ptAt l i) (ptAt l (i + 1)) = true) := fun i hi => hbs i (by rw [hlen]; exact hi)
  rw [hlen] at hl1 hl2
  rcases hP with h0 | ⟨g, off, rfl, hg, hc⟩
  · omega
  have HC : Hid (∀ j, j < np → w.cell? ⟨g, off + j * 2, none⟩ = some (.int .i64 (ptAt l j).1) ∧ w.cell? ⟨g, off + j * 2 + 1, none⟩ = some (.int .i64 (ptAt l j).2)) := hc
  have i1 : (0 : Int) < (np : Int) := by omega
  clear hlen hc hok hbs hp
  go_enter Tryd.func16, Tryd.ntmps16
  go_wp2_with fail
  go_loopw [3] (fun i wr => ∃ k : Nat, k ≤ np ∧ i = .int .i64 k ∧ Below w.heap.size w wr) (fun i _ => np - (intOf i).toNat)
  case atStart => exact ⟨0, Nat.zero_le _, rfl, bw_refl _⟩
  case round =>
    obtain ⟨k, hk, rfl, hnx⟩ := hrel
    by_cases hlt : k < np
    case neg =>
      obtain rfl : k = np := by omega
      have b0 : (0 : Nat) < k := by omega
      go_wp2_with fail
      go_ret
      exact ⟨by first | rfl | (show Ending.returned (.bool (decide (0 < k))) = _; rw [decide_eq_true b0]), hnx⟩
    case pos =>
      have i3 : (0 : Int) ≤ (k : Int) := Int.natCast_nonneg _
      have i4 : (k : Int) < (np : Int) := by omega
      obtain ⟨d0, d1⟩ := HC.out k hlt
      have q0 := cell_regrown ((hnx.cell (p := ⟨g, off + k * 2, none⟩) hg).trans d0)
      have q1 := cell_regrown ((hnx.cell (p := ⟨g, off + k * 2 + 1, none⟩) hg).trans d1)
      have X1 : Hid (∀ V, Calls Tryd.prog 42 #[.agg #[.int .i64 (ptAt l k).1, .int .i64 (ptAt l k).2]] V fun e w' => e = .returned (.bool true) ∧ Below V.heap.size V w') := fun V => by
        have h1 := ptOk_any (ptAt l k).1 (ptAt l k).2 V
        have h2 := HOK.out k hlt
        unfold okP at h2
        rwa [h2] at h1
      clear d0 d1
      rcases Nat.eq_zero_or_pos k with hk0 | hk0
      · subst hk0
        simp only [Nat.zero_mul, Nat.add_zero] at q0 q1
        go_wp2_with fail
        refine wp_region_quiet_below (by kernel_rfl) (by kernel_rfl) ?_
        repeat (first | go_big_quiet_step (first | (go_at_call 42; with_reducible exact Calls.regrown_of (X1.out _))))
        refine wpQuiet_nil ?_
        intro _ hw'
        obtain ⟨⟨dq, osq⟩, hw''⟩ := hw'
        subst hw''
        have J := below_regrown wr dq osq
        generalize grow (redrawn wr dq) osq = v1 at J ⊢
        go_wp2_with fail
        go_roundw
        case rel => exact ⟨0 + 1, by omega, by simp, bw_trans hnx J⟩
        case measure => simp [intOf]; omega
      · obtain ⟨q, rfl⟩ : ∃ q, k = q + 1 := ⟨k - 1, by omega⟩
        obtain ⟨d0, d1⟩ := HC.out q (by omega)
        have s0 := cell_regrown ((hnx.cell (p := ⟨g, off + q * 2, none⟩) hg).trans d0)
        have s1 := cell_regrown ((hnx.cell (p := ⟨g, off + q * 2 + 1, none⟩) hg).trans d1)
        have j1 : IntKind.i64.wrap ((q : Int)) = (q : Int) := wrap_small (by omega) (by omega)
        have j2 : (0 : Int) ≤ (q : Int) := Int.natCast_nonneg _
        have j3 : (q : Int) < (np : Int) := by omega
        have j5 : (0 : Int) < (q : Int) + 1 := by omega
        have X2 : Hid (∀ V, Calls Tryd.prog 43 #[.agg #[.int .i64 (ptAt l q).1, .int .i64 (ptAt l q).2], .agg #[.int .i64 (ptAt l (q+1)).1, .int .i64 (ptAt l (q+1)).2]] V fun e w' => e = .returned (.int .i64 1) ∧ Below V.heap.size V w') := fun V => by
          have h1 := luSq_one (ptAt l q) (ptAt l (q + 1)) V (HOK.out q (by omega)) (HOK.out (q + 1) hlt)
          have h2 := of_decide_eq_true (HBS.out q hlt)
          rwa [h2] at h1
        clear d0 d1
        go_wp2_with fail
        refine wp_region_quiet_below (by kernel_rfl) (by kernel_rfl) ?_
        repeat (first | go_big_quiet_step (first | (go_at_call 42; with_reducible exact Calls.regrown_of (X1.out _)) | (go_at_call 43; with_reducible exact Calls.regrown_of (X2.out _))))
        refine wpQuiet_nil ?_
        intro _ hw'
        obtain ⟨⟨dq, osq⟩, hw''⟩ := hw'
        subst hw''
        have J := below_regrown wr dq osq
        generalize grow (redrawn wr dq) osq = v1 at J ⊢
        go_wp2_with fail
        go_roundw
        case rel => exact ⟨q + 1 + 1, by omega, by simp, bw_trans hnx J⟩
        case measure => simp [intOf]; omega
end Go.Proofs.YtfdnadiliedikaaDoor
namespace Go.Proofs.YtfdnadiliedikaaDoor
open Go.RowKit Go.Sort

theorem cdV_back {l : List P2} (h : pathP l = true) : readC (cdV l).data.toList = some l ∧ (cdV l).size = 9 * (turnsV l).length ∧ (turnsV l).length = (turnsL l).length := by
  have e : turnsV l = turnsL l := by unfold turnsV; rw [h, if_pos rfl]
  rw [e]
  unfold cdV
  rw [h, if_pos rfl]
  exact ⟨readC_back h, cdB_size (turns_okP h), rfl⟩
set_option maxRecDepth 100000 in
set_option maxHeartbeats 4000000 in
theorem codeBack_walk (w : World) (a0 : Option Addr) (len0 cap0 : Nat) (z0 : List Int) (r0 : IsRow .u8 w a0 len0 cap0 z0) (hL : Lib4 w) :
    Calls Tryd.prog 3 #[.slice a0 len0 cap0] w fun e w' => e = .returned (.bool true) ∧ Below w.heap.size w w' := by
  by_cases hl0 : (1048576 : Int) < (len0 : Int)
  · go_enter Tryd.func3, Tryd.ntmps3
    go_wp2_with fail
    go_ret
    exact ⟨rfl, bw_refl _⟩
  go_enter Tryd.func3, Tryd.ntmps3
  go_wp2_with fail
  refine (drawCodeWrite_any w _ r0 (bw_refl _)).mono ?_
  rintro e w1 ⟨g, c, l, rfl, _, hl20, _, hlc, hb, J1⟩
  have hP1 := hb.pts' rfl
  obtain ⟨n, hn⟩ : ∃ n, n = l.length := ⟨_, rfl⟩
  have HN : Hid (l.length = n) := hn.symm
  rw [← hn] at hP1 hl20 hlc
  rw [← hn]
  clear hb hn
  have hL1 := hL.below J1
  have hWa := fun V (J : Below w1.heap.size w1 V) => codeWrite_any (some ⟨g, 0, none⟩) n c l V (by omega) hlc ((hP1.below J).grow J.size) (hL1.below J).1
  have hSa := fun V (J : Below w1.heap.size w1 V) => sCodeWrite_any (some ⟨g, 0, none⟩) n c l V (by omega) ((hP1.below J).grow J.size)
  have hTu := fun V (J : Below w1.heap.size w1 V) => codeTurns_any (some ⟨g, 0, none⟩) n c l V (by omega) hlc ((hP1.below J).grow J.size)
  cases hpa : pathP l with
  | false =>
    rw [cdV_none hpa] at hWa hSa
    go_wp2_with fail
    refine (hWa _ (bw_refl _)).mono ?_
    rintro e w3 ⟨rfl, J3⟩
    go_wp2_with fail
    refine (hSa _ J3).mono ?_
    rintro e w4 ⟨rfl, J4⟩
    have J34 := bw_trans J3 J4
    go_wp2_with fail
    refine (hSa _ J34).mono ?_
    rintro e w5 ⟨rfl, J5⟩
    go_wp2_with fail
    go_ret
    exact ⟨rfl, bw_trans J1 (bw_trans J34 J5)⟩
  | true =>
    obtain ⟨hs2, _⟩ := path_text hpa
    have hsn := text_some hs2
    have hsz0 := cdV_size l
    obtain ⟨hbk, hsz, hm⟩ := cdV_back hpa
    have hRd := fun V (J : Below w1.heap.size w1 V) => codeRead_any (cdV l) (by omega) V (hL1.below J)
    simp only [hbk, Option.isSome_some, Option.getD_some] at hRd
    have hpp := fun V (J : Below w1.heap.size w1 V) => luPath_ok (some ⟨g, 0, none⟩) n c l V ((hP1.below J).grow J.size) hpa
    obtain ⟨m, hmm⟩ : ∃ m, (turnsV l).length = m := ⟨_, rfl⟩
    rw [hmm] at hsz
    have HM : Hid ((turnsV l).length = m) := hmm
    clear hbk hm hmm
    generalize cdV l = s at *
    have e9 : ((s.size : Int) == 9 * (m : Int)) = true := by simp; omega
    have e9' : IntKind.i64.wrap (9 * (m : Int)) = 9 * (m : Int) := wrap_small (by omega) (by omega)
    have HSZ : Hid (s.size = 9 * m) := hsz
    clear hsz
    go_wp2_with fail
    refine (hWa _ (bw_refl _)).mono ?_
    rintro e w3 ⟨rfl, J3⟩
    go_wp2_with fail
    refine (hSa _ J3).mono ?_
    rintro e w4 ⟨rfl, J4⟩
    have J34 := bw_trans J3 J4
    go_wp2_with fail
    refine (hRd _ J34).mono ?_
    rintro e w5 ⟨v5, rfl, A5, J5⟩
    have J35 := bw_trans J34 J5
    obtain ⟨a5, c5, rfl, hc5, P5⟩ := A5.ownc
    rw [HN.out] at P5 ⊢
    have hSm := luSame_any a5 (some ⟨g, 0, none⟩) n n c5 c l l w5 P5 ((hP1.below J35).grow J35.size) (by omega)
    rw [decide_eq_true rfl] at hSm
    go_wp2_with fail
    refine hSm.mono ?_
    rintro e w6 ⟨rfl, J6⟩
    have J36 := bw_trans J35 J6
    go_wp2_with fail
    refine (hTu _ J36).mono ?_
    rintro e w7 ⟨v7, rfl, A7, J7⟩
    have J37 := bw_trans J36 J7
    obtain ⟨a7, c7, rfl, hc7, P7⟩ := A7.ownc
    rw [HM.out]
    go_wp2_with fail
    refine (hpp _ J37).mono ?_
    rintro e w8 ⟨rfl, J8⟩
    go_wp2_with fail
    go_ret
    exact ⟨rfl, bw_trans J1 (bw_trans J37 J8)⟩
end Go.Proofs.YtfdnadiliedikaaDoor
namespace Go.Proofs.YtfdnadiliedikaaDoor
open Go.RowKit Go.Sort

set_option maxHeartbeats 1000000 in
theorem of_rd (k : Nat) (a : Option Addr) (len cap r g : Nat) (ss : List ByteArray) (w : World) (hk : k ≤ 900000) (R : Rd w r k a len cap) (hl : w.heap[g]? = some (.cells (ss.map Value.string).toArray 9 (0, 0))) (n : Nat) (hN : ss.length = n) (hn : 1 ≤ n) (h5 : n ≤ 100) (hgr : g ≠ r) :
    Calls Tryd.prog 45 #[.pointer (some ⟨r, 0, none⟩), .slice (some ⟨g, 0, none⟩) n n] w fun e w' => ∃ s, s ∈ ss ∧ e = .returned (.string s) ∧ Rd w' r (k + 1) a len cap ∧ Only r w w' := by
  have HN : Hid (ss.length = n) := hN
  clear hN
  go_enter Tryd.func45, Tryd.ntmps45
  go_wp2_with fail
  refine (pick_rd n k a len cap r _ (by omega) (by omega) R).mono ?_
  rintro e w1 ⟨q, rfl, qa, qb, R1, O⟩
  obtain ⟨m, rfl⟩ := Int.eq_ofNat_of_zero_le qa
  have hm : m < ss.length := by rw [HN.out]; omega
  have c0 : w1.cell? ⟨g, m, none⟩ = some (.string ss[m]) := by
    rw [row_cell (keepO O hl hgr), List.getElem?_toArray, List.getElem?_map, List.getElem?_eq_getElem hm]; rfl
  have hmem := List.getElem_mem hm
  generalize ss[m] = s at *
  go_wp2_with fail
  go_ret
  exact ⟨s, hmem, rfl, R1, O⟩
set_option maxRecDepth 100000 in
set_option maxHeartbeats 4000000 in
theorem drawCodeRead_any {a : Option Addr} {len0 cap : Nat} {zs : List Int} (w0 w : World) (h : IsRow .u8 w0 a len0 cap zs) (hb : Below w0.heap.size w0 w) :
    Calls Tryd.prog 17 #[.slice a len0 cap] w fun e w' => ∃ s : ByteArray, e = .returned (.string s) ∧ s.size ≤ 4000 ∧ Below w.heap.size w w' := by
  go_enter Tryd.func17, Tryd.ntmps17
  go_wp2_with fail
  refine (open_rd w0 _ h hb).mono ?_
  rintro e w1 ⟨len, rfl, R, hb1⟩
  have z1 := hb1.size
  have zr := R.lt
  go_wp2_with fail
  refine (l72Path_rd 0 a len cap _ _ (by omega) R).mono ?_
  clear R
  rintro e w2 ⟨g, c, l, rfl, hl, hPB, hlc, hb2, O, k', hk', R⟩
  have hP2 := hb2.pts' rfl
  obtain ⟨n, hn⟩ : ∃ n, n = l.length := ⟨_, rfl⟩
  rw [← hn] at hP2 hl
  rw [← hn]
  clear hb2 hn hlc
  have zO := O.size
  go_wp2_with fail
  refine (sCodeWrite_any (some ⟨g, 0, none⟩) n c l w2 (by omega) hP2).mono ?_
  rintro e w3 ⟨rfl, J⟩
  have hts := cdV_size l
  generalize cdV l = t at *
  replace R := R.below J
  replace O := O.trans ⟨J.os, J.tape, J.output, J.size, fun j _ hj => J.block j hj⟩
  have ht0 : (0 : Int) ≤ (t.size : Int) := Int.natCast_nonneg _
  have k1 : IntKind.i64.wrap ((t.size : Int) + 1) = (t.size : Int) + 1 := wrap_small (by omega) (by omega)
  go_wp2_with fail
  refine (pick_rd ((t.size : Int) + 1) k' a len cap _ _ (by omega) (by omega) R).mono ?_
  clear R
  rintro e w4 ⟨p, rfl, pa, pb, R, O4⟩
  obtain ⟨m, rfl⟩ := Int.eq_ofNat_of_zero_le pa
  replace O := O.trans O4
  go_wp2_with fail
  refine (pick_rd 8 (k' + 1) a len cap _ _ (by omega) (by omega) R).mono ?_
  clear R O4
  rintro e w5 ⟨q, rfl, qa, qb, R, O5⟩
  replace O := O.trans O5
  have BB : Below w.heap.size w w5 := hb1.trans (O.below' (B := w.heap.size) (Nat.le_refl _) (by omega))
  have hmt : m ≤ t.size := by omega
  by_cases q0 : q = 0
  · subst q0
    go_wp2_with fail
    go_ret
    exact ⟨t.extract 0 m, rfl, by rw [ByteArray.size_extract]; omega, BB⟩
  by_cases q1 : q = 1
  · subst q1
    have z5 := O.size
    have h4 : ∀ s ∈ ([⟨#[48]⟩, ⟨#[32]⟩, ⟨#[10]⟩, ⟨#[71, 49, 32, 88, 49, 32, 89, 49, 10]⟩, ⟨#[120]⟩] : List ByteArray), s.size ≤ 9 := by
      intro s hs
      simp only [List.mem_cons, List.not_mem_nil, or_false] at hs
      rcases hs with rfl | rfl | rfl | rfl | rfl <;> decide
    have hOf := of_rd (k' + 1 + 1) a len cap _ w5.heap.size [⟨#[48]⟩, ⟨#[32]⟩, ⟨#[10]⟩, ⟨#[71, 49, 32, 88, 49, 32, 89, 49, 10]⟩, ⟨#[120]⟩] ((w5.alloc (.cells #[.string ⟨#[48]⟩, .string ⟨#[32]⟩, .string ⟨#[10]⟩, .string ⟨#[71, 49, 32, 88, 49, 32, 89, 49, 10]⟩, .string ⟨#[120]⟩] 9)).drew) (by omega) (R.alloc _).drew (heap_new w5 _) 5 rfl (by decide) (by decide) (by omega)
    have i0 : (0 : Int) ≤ (m : Int) := Int.natCast_nonneg _
    have i1 : (m : Int) ≤ (t.size : Int) := by omega
    go_wp2_with fail
    go_region_held3 (fun _ => True) (trivial) (first | (go_at_call 45; (with_reducible refine hOf.mono ?_); rintro e w6 ⟨s, hs, rfl, R6, O6⟩; have hs4 := h4 s hs; have y1 : (9223372036854775807 < min m t.size + s.size) = False := (by simp; omega); have y2 : (9223372036854775807 < m + s.size) = False := (by simp; omega); have y3 : (9223372036854775807 < min m t.size + s.size + (t.size - m)) = False := (by simp; omega); have y4 : (9223372036854775807 < m + s.size + (t.size - m)) = False := (by simp; omega); have y5 : min m t.size = m := (by omega)))
    go_wp2_with fail
    go_ret
    have OO := (O.alloc (.cells #[.string ⟨#[48]⟩, .string ⟨#[32]⟩, .string ⟨#[10]⟩, .string ⟨#[71, 49, 32, 88, 49, 32, 89, 49, 10]⟩, .string ⟨#[120]⟩] 9)).drew.trans O6
    exact ⟨t.extract 0 m ++ s ++ t.extract m t.size, rfl, by rw [ByteArray.size_append, ByteArray.size_append, ByteArray.size_extract, ByteArray.size_extract]; omega, hb1.trans (OO.below' (B := w.heap.size) (Nat.le_refl _) (by omega))⟩
  · have x0 : (q == 0) = false := by simpa using q0
    have x1 : (q == 1) = false := by simpa using q1
    go_wp2_with fail
    go_ret
    exact ⟨t, rfl, by omega, BB⟩
set_option maxRecDepth 100000 in
set_option maxHeartbeats 4000000 in
theorem codeStr_walk (w : World) (a0 : Option Addr) (len0 cap0 : Nat) (z0 : List Int) (r0 : IsRow .u8 w a0 len0 cap0 z0) (hL : Lib4 w) :
    Calls Tryd.prog 4 #[.slice a0 len0 cap0] w fun e w' => e = .returned (.bool true) ∧ Below w.heap.size w w' := by
  by_cases hl0 : (1048576 : Int) < (len0 : Int)
  · go_enter Tryd.func4, Tryd.ntmps4
    go_wp2_with fail
    go_ret
    exact ⟨rfl, bw_refl _⟩
  go_enter Tryd.func4, Tryd.ntmps4
  go_wp2_with fail
  refine (drawCodeRead_any w _ r0 (bw_refl _)).mono ?_
  rintro e w1 ⟨s, rfl, hs, J1⟩
  have hL1 := hL.below J1
  have hS := fun V => sCodeRead_ok s (by omega) V
  have hR := fun V (J : Below w1.heap.size w1 V) => codeRead_any s (by omega) V (hL1.below J)
  have hx1 : ∀ b : Bool, (b != b) = false := by simp
  cases hrc : readC s.data.toList with
  | none =>
    simp only [hrc, Option.isSome_none, Option.getD_none] at hS hR
    clear hrc
    go_wp2_with fail
    refine (hS _).mono ?_
    rintro e w2 ⟨v2, rfl, A2, J2⟩
    obtain ⟨a2, c2, rfl, _, P2'⟩ := A2.ownc
    simp only [List.length_nil] at P2'
    go_wp2_with fail
    refine (hR _ J2).mono ?_
    rintro e w3 ⟨v3, rfl, A3, J3⟩
    obtain ⟨a3, c3, rfl, _, P3⟩ := A3.ownc
    simp only [List.length_nil] at P3
    have J23 := bw_trans J2 J3
    have hSm := fun V (J : Below w3.heap.size w3 V) => luSame_any a3 a2 0 0 c3 c2 [] [] V ((P3.below J).grow J.size) ((((P2'.below J3).grow J3.size).below J).grow J.size) (by omega)
    rw [decide_eq_true rfl] at hSm
    simp only [List.length_nil]
    go_wp2_with fail
    refine (hSm _ (bw_refl _)).mono ?_
    rintro e w4 ⟨rfl, J4⟩
    go_wp2_with fail
    refine (hSm _ J4).mono ?_
    rintro e w5 ⟨rfl, J5⟩
    go_wp2_with fail
    go_ret
    exact ⟨rfl, bw_trans J1 (bw_trans J23 (bw_trans J4 J5))⟩
  | some l =>
    simp only [hrc, Option.isSome_some, Option.getD_some] at hS hR
    obtain ⟨hp, ht⟩ := readC_only hrc
    have hcv : cdV l = s := by unfold cdV; rw [hp, if_pos rfl]; unfold cdB; rw [ht]
    have h400 := (pathP_parts hp).1.2
    obtain ⟨n, hn⟩ : ∃ n, l.length = n := ⟨_, rfl⟩
    have HN : Hid (l.length = n) := hn
    rw [hn] at h400
    clear hrc hn ht
    go_wp2_with fail
    refine (hS _).mono ?_
    rintro e w2 ⟨v2, rfl, A2, J2⟩
    obtain ⟨a2, c2, rfl, _, P2'⟩ := A2.ownc
    rw [HN.out] at P2' ⊢
    go_wp2_with fail
    refine (hR _ J2).mono ?_
    rintro e w3 ⟨v3, rfl, A3, J3⟩
    obtain ⟨a3, c3, rfl, hc3, P3⟩ := A3.ownc
    rw [HN.out] at P3 hc3 ⊢
    have J23 := bw_trans J2 J3
    have hSm := fun V (J : Below w3.heap.size w3 V) => luSame_any a3 a2 n n c3 c2 l l V ((P3.below J).grow J.size) ((((P2'.below J3).grow J3.size).below J).grow J.size) (by omega)
    rw [decide_eq_true rfl] at hSm
    have hpp := fun V (J : Below w3.heap.size w3 V) => luPath_ok a3 n c3 l V ((P3.below J).grow J.size) hp
    have hWa := fun V (J : Below w3.heap.size w3 V) => codeWrite_any a3 n c3 l V (by omega) hc3 ((P3.below J).grow J.size) (hL1.below (bw_trans J23 J)).1
    rw [hcv] at hWa
    clear hcv
    go_wp2_with fail
    refine (hSm _ (bw_refl _)).mono ?_
    rintro e w4 ⟨rfl, J4⟩
    go_wp2_with fail
    refine (hpp _ J4).mono ?_
    rintro e w5 ⟨rfl, J5⟩
    have J45 := bw_trans J4 J5
    go_wp2_with fail
    refine (hWa _ J45).mono ?_
    rintro e w6 ⟨rfl, J6⟩
    go_wp2_with fail
    go_ret
    exact ⟨rfl, bw_trans J1 (bw_trans J23 (bw_trans J45 J6))⟩
end Go.Proofs.YtfdnadiliedikaaDoor
namespace Go.Proofs.YtfdnadiliedikaaDoor
open Go.ChangeShapes Go.WideShapes Go.ChangeAt Go.RowKit

theorem own : ownKnob Tryd.prog.godebug = none := by kernel_rfl
theorem laidOut : laidOutB Tryd.prog = true := by kernel_rfl
/-- The list. -/
def listTab : List (String × DataW Unit) := [("math/bits.deBruijn32tab", Rows.laid_math_bits_deBruijn32tab), ("math/bits.deBruijn64tab", Rows.laid_math_bits_deBruijn64tab), ("internal/strconv.uint64pow10", Rows.laid_internal_strconv_uint64pow10)]
theorem gPType : (Tryd.prog.globals[1]?).map (·.type) = some 107 := by kernel_rfl
theorem cellsU64 : Tryd.prog.cellsOf 99 = 1 := by kernel_rfl
theorem cellsTab : Tryd.prog.cellsOf 107 = 20 := by kernel_rfl
theorem tabSame : Rows.laid_internal_strconv_uint64pow10 (H := Unit) = Lib.tabData .u64 Lib.pow10Tab := by kernel_rfl
theorem tab_of_laid {W : World} (h : laidMetH Tryd.prog listTab W) : Tab W := by
  rw [MakeChecks.laidMetH_plain _ _ _ (by kernel_rfl)] at h
  have h3 : laidMet Tryd.prog [("internal/strconv.uint64pow10", Rows.laid_internal_strconv_uint64pow10)] W := (laidMet.tail (laidMet.tail h))
  rw [tabSame] at h3
  exact Lib.tabIs_of_head gP gPType Tryd.underlying107 Tryd.underlying99 cellsU64 cellsTab h3
/-- The door's own heap meets the condition. -/
theorem door_met_tab (os : Os) (args : Array Value) : laidMetH Tryd.prog listTab ((World.doorLaid Tryd.prog 62 os).forCall (fun _ _ => 0) ⟨#[], args, []⟩).memory :=
  laidMetH_of_parts3 (fuel := 8) (laidMet_of_run' 8 (by kernel_rfl) (by kernel_rfl)) (by kernel_rfl) (by kernel_rfl)
end Go.Proofs.YtfdnadiliedikaaDoor
namespace Go.Proofs.YtfdnadiliedikaaDoor
open Go.ChangeShapes Go.WideShapes Go.ChangeAt Go.RowKit

/-- The list. -/
def listAll : List (String × DataW Unit) := [("math/bits.deBruijn32tab", Rows.laid_math_bits_deBruijn32tab), ("math/bits.deBruijn64tab", Rows.laid_math_bits_deBruijn64tab), ("internal/strconv.uint64pow10", Rows.laid_internal_strconv_uint64pow10), ("strconv.ErrRange", Rows.laid_strconv_ErrRange), ("strconv.ErrSyntax", Rows.laid_strconv_ErrSyntax)]
theorem gRngType : (Tryd.prog.globals[3]?).map (·.type) = some 54 := by kernel_rfl
theorem gSynType : (Tryd.prog.globals[2]?).map (·.type) = some 54 := by kernel_rfl
theorem cellsES : Tryd.prog.cellsOf 131 = 1 := by kernel_rfl
theorem cellsStr : Tryd.prog.cellsOf 9 = 1 := by kernel_rfl
theorem star : "*" ++ "errors.errorString" = "*errors.errorString" := by decide
theorem rowES (u : TypeId) (h : Tryd.prog.typeName? 3 u = some "*errors.errorString") : u = 129 :=
  typeName_ptr_named (nm := "errors.errorString") (by rw [star]; kernel_rfl) (by kernel_rfl) (by decide) u (by rw [star]; exact h)
theorem all_of_laid {W : World} (h : laidMetH Tryd.prog listAll W) (hsh : W.ShapedOpen Tryd.prog) : Lib4 W := by
  rw [MakeChecks.laidMetH_plain _ _ _ (by kernel_rfl)] at h
  have h3 := laidMet.tail (laidMet.tail h)
  have h5 := laidMet.tail h3
  have h6 := laidMet.tail h5
  refine ⟨?_, ?_, ?_, ?_⟩
  · rw [tabSame] at h3
    exact Lib.tabIs_of_head gP gPType Tryd.underlying107 Tryd.underlying99 cellsU64 cellsTab h3
  · exact cell_of_shapedOpen_int hsh (g := 0) (t := 3) (zero := #[.int .i64 0]) (of_decide_eq_true (by kernel_rfl)) (by kernel_rfl) rfl (by kernel_rfl) (by kernel_rfl) Tryd.underlying3
  · obtain ⟨a, s, hv, _, _, _⟩ := laid_sentinel h6 gSyn gSynType Tryd.underlying54 rowES Tryd.underlying129 Tryd.underlying131 rfl rfl Tryd.underlying9 cellsES cellsStr
    exact ⟨_, _, hv⟩
  · obtain ⟨a, s, hv, _, _, _⟩ := laid_sentinel h5 gRng gRngType Tryd.underlying54 rowES Tryd.underlying129 Tryd.underlying131 rfl rfl Tryd.underlying9 cellsES cellsStr
    exact ⟨_, _, hv⟩
/-- A heap in which all of them lie. -/
theorem met_all (os : Os) (args : Array Value) : laidMetH Tryd.prog listAll ((World.laidAll Tryd.prog os listAll).forCall (fun _ _ => 0) ⟨#[], args, []⟩).memory := by
  rw [MakeChecks.laidMetH_plain _ _ _ (by kernel_rfl)]
  exact laidMet_laidAll _ (by kernel_rfl) (by kernel_rfl)
theorem shaped_all (os : Os) (args : Array Value) : ((World.laidAll Tryd.prog os listAll).forCall (fun _ _ => 0) ⟨#[], args, []⟩).Shaped Tryd.prog := World.shaped_of_ZipB (by kernel_rfl) (by kernel_rfl)
/-- The wrap: what is listed, and the world's shape. -/
theorem returns_and_shaped {H : Type} {enc : TypeId × Value → H} {a : Assume} {C : Checked} {os : Os} {f : FuncId} {fn : Func} {s : ChangeSpec} {conds : List PathCond} {apart fresh handsOn again : Bool} {X : World → Array Value → Prop}
    (hX : ∀ (w w' : World) (args : Array Value), w.heap = w'.heap → X w args → X w' args)
    (own : ownKnob C.prog.godebug = none) (started : os.Started) (noInit : C.prog.inits.idxOf? f = none) (hfn : C.prog.funcs[f]? = some fn)
    (witness : ∃ (w : World) (tape : Tape) (i : Input), w.os = os ∧ (w.forCall tape i).Shaped C.prog ∧ i.vars = [] ∧ Input.okWide C.prog (w.forCall tape i) .any w.heap.size f i ∧
      ((s.pre enc C.prog fn conds apart (w.forCall tape i).memory i.args ∧ X (w.forCall tape i).memory i.args) ∧ sizedMet enc C.prog fn (OpenSpec.ofChange s) apart (w.forCall tape i).memory i.args) ∧ a.holds C.prog (lone (Frame.enter C.prog f i.args .normal) [] (w.forCall tape i)))
    (contract : ∀ (W : World) (base : Nat) (args : Array Value) (ds gs : List (DataW H)) (before : List MemPlace),
      (∀ (j : Nat) t v, fn.params[j]? = some t → args[j]? = some v → Value.okWide C.prog W .any base t v) →
      DataW.Whole enc C.prog fn.params.toList s.vars apart W args.toList ds gs before → X W args → W.ShapedOpen C.prog →
      Calls C.prog f args W fun e W' => ∃ v, e = .returned v ∧ s.post enc C.prog fn apart fresh handsOn again W args v W') :
    ReturnsInHanded a C os f .any (fun w args => (s.pre enc C.prog fn conds apart w args ∧ X w args) ∧ sizedMet enc C.prog fn (OpenSpec.ofChange s) apart w args) (s.post enc C.prog fn apart fresh handsOn again) := by
  refine returnsInHanded_of_calls own started noInit witness fun w tape i _ hsh _ hok hpre _ => ?_
  obtain ⟨_, _, _, g, hg, _, _, _, _, hval⟩ := hok
  obtain rfl : g = fn := Option.some.inj (hg.symm.trans hfn)
  obtain ⟨⟨⟨ds, gs, before, hw, _⟩, hx⟩, _⟩ := hpre
  refine (contract (w.forCall tape i) w.heap.size i.args ds gs before hval (DataW.Whole.of_heap (w' := w.forCall tape i) (by rfl) hw) (hX _ _ _ (by rfl) hx) hsh).mono fun e W' ⟨v, he, hp⟩ => ?_
  subst he
  exact ChangeSpec.post_blind hp
end Go.Proofs.YtfdnadiliedikaaDoor
namespace Go.Proofs.YtfdnadiliedikaaDoor
open Go.ChangeShapes Go.WideShapes Go.ChangeAt Go.RowKit Go.Joins
open Go.ChangeMaps (open_string shut_string)

set_option maxRecDepth 100000 in
theorem fnCodeStrict_lifted (os : Os) (started : os.Started) (H : Type) (enc : TypeId × Value → H) :
    ReturnsInHanded {} Tryd.checked os 4 .any (fun w args => (Rows.fnCodeStrictSpec.pre enc Tryd.prog Tryd.f4 [] false w args ∧ laidMetH Tryd.prog Rows.fnCodeStrictRow.laid w) ∧ sizedMet enc Tryd.prog Tryd.f4 (OpenSpec.ofChange Rows.fnCodeStrictSpec) false w args)
      (Rows.fnCodeStrictSpec.post enc Tryd.prog Tryd.f4 false true false false) := by
  refine returns_and_shaped (C := Tryd.checked) (X := fun w _ => laidMetH Tryd.prog Rows.fnCodeStrictRow.laid w) (fun _ _ _ hh h => h.of_heap hh) own started (by kernel_rfl) Tryd.func4
    (ChangeSpec.witness_shaped (enc := enc) (C := Tryd.checked) (os := os) (X := fun w _ => laidMetH Tryd.prog Rows.fnCodeStrictRow.laid w) false (World.laidAll Tryd.prog os listAll) #[.slice none 0 0] 8 (World.laidAll_os _ _ _) (shaped_all os _) (by kernel_rfl) (by kernel_rfl) (by kernel_rfl) (met_all os _)) ?_
  intro W base args ds gs before hval0 hW hL hsh
  have hval : ∀ (j : Nat) t v, Tryd.f4.params[j]? = some t → args[j]? = some v → Value.okWide Tryd.prog W .any base t v := hval0
  have hW' := hW
  obtain ⟨p, q, hA0, hV, rfl, hfz, hnd⟩ := hW
  have hA : DataW.TrodAll enc Tryd.prog W 0 (fun _ => true) true Tryd.f4.params.toList args.toList ds p := hA0
  rw [Tryd.params4] at hA hval
  obtain ⟨v0, vs0, d0, ds0, p0, q0, hargs, rfl, rfl, h0, r0⟩ := trodAll_cons hA
  obtain ⟨rfl, rfl, rfl⟩ := trodAll_nil r0
  obtain rfl : args = #[v0] := by cases args; simp_all
  obtain ⟨rfl, rfl⟩ := trodVars_none hV
  have htab := all_of_laid hL hsh
  have k0 := h0
  have lt0 : ∀ x ∈ p0, x.block < W.heap.size := by obtain ⟨m, hm⟩ := k0; exact DataW.trod_lt m _ _ _ hm
  obtain ⟨a0, len0, cap0, rfl⟩ := okWide_slice Tryd.underlying22 (hval 0 22 v0 rfl rfl)
  obtain ⟨z0, w0⟩ : ∃ zs, IsRow .u8 W a0 len0 cap0 zs := by
    obtain ⟨fuel, hf⟩ := h0
    rcases open_ints Tryd.underlying22 Tryd.underlying5 (by kernel_rfl) hf with ⟨hcs, _⟩ | ⟨x, l, c, zs, hcs, _, hl, hm, hz, _, hcell, hwz⟩
    · simp [Value.cells] at hcs
      obtain ⟨rfl, rfl, rfl⟩ := hcs
      exact ⟨[], .inl ⟨rfl, rfl, rfl, rfl⟩⟩
    · simp [Value.cells] at hcs
      obtain ⟨rfl, rfl, rfl⟩ := hcs
      exact ⟨zs, .inr ⟨_, rfl, hl, hm, by simpa using hz, hcell, hwz⟩⟩
  clear hA0 hval0
  refine (codeStr_walk W a0 len0 cap0 z0 w0 htab).mono fun e W' ⟨he, bel⟩ => ?_
  subst he
  exact ⟨_, rfl, _, _, _, [], _, [], hW', trodAll_mk1 (shut_bool Tryd.underlying4 _), (trodAll_cons_mk (Below.trod laidOut (by kernel_rfl) (of_decide_eq_true (by kernel_rfl)) k0 bel lt0) trodAll_mk0), rfl, bel.frame _, fun h => by cases h⟩

theorem fnCodeStrict_said : Rows.FnCodeStrictSaid :=
  OpenClaim.holds_of_wide 4 Tryd.f4 rfl rfl rfl rfl rfl rfl rfl ⟨rfl, rfl, rfl, rfl, rfl⟩ rfl rfl rfl rfl rfl (by kernel_rfl) Tryd.func4 (by kernel_rfl)
    (of_decide_eq_true (by kernel_rfl)) (by unfold Func.isWrapper; first | (rw [if_pos (by decide +kernel)]; kernel_rfl) | (rw [if_neg (by decide +kernel)]; exact ⟨rfl, rfl⟩))
    (fun os started H enc _ => fnCodeStrict_lifted os started H enc)

theorem fnCodeStrict_plain (f : FuncId) (fn : Func) (hf : Tryd.pinned.checked.prog.funcNamed "loop.example/mortiser/laws.FnCodeStrict" = some f) (hfn : Tryd.pinned.checked.prog.funcs[f]? = some fn) :
    true = Tryd.pinned.checked.prog.looks [] ∧ ∀ (j : Nat) t, fn.params[j]? = some t → Tryd.pinned.checked.prog.wantsStandIn t = false := by
  obtain rfl : f = 4 := Option.some.inj ((show Tryd.prog.funcNamed "loop.example/mortiser/laws.FnCodeStrict" = some 4 by kernel_rfl).symm.trans hf) |>.symm
  obtain rfl : fn = Tryd.f4 := (Option.some.inj (Tryd.func4.symm.trans hfn)).symm
  refine ⟨by kernel_rfl, fun j t ht => ?_⟩
  rw [Tryd.params4] at ht
  have hm := Array.mem_of_getElem? ht
  simp only [List.mem_toArray, List.mem_cons, List.not_mem_nil, or_false] at hm
  subst hm
  exact (show Tryd.prog.wantsStandIn 22 = false by kernel_rfl)

/-- THE STATEMENT. -/
theorem fnCodeStrict_card : Rows.FnCodeStrictCardSaid :=
  Claim7.holds_tied_plain_at .later [] _ _ _ _ fnCodeStrict_said (fun _ h => by cases h) (by kernel_rfl) (fun _ h => by cases h) fnCodeStrict_row_tie rfl ⟨rfl, rfl⟩ (by kernel_rfl) rfl fnCodeStrict_plain (by kernel_rfl)
end Go.Proofs.YtfdnadiliedikaaDoor
