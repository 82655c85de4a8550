/-
  OUR OWN TEXT. The law FnCodeOne, for every input: the call returns true, and each argument reads as it did. Texts of ours, joined, so that the claim keeps to its number of files. Conditions: none but the row's own.
-/
import Derived.Test.YtfdnadiliedikaaDoorCodeTxM
import Derived.Test.YtfdnadiliedikaaDoorItoa
import Derived.Test.YtfdnadiliedikaaDoorBoxes
import Derived.Test.YtfdnadiliedikaaDoorLoneW
import Derived.Conc.SmallLaws
import Derived.Conc.EventLaws
import Derived.Test.YtfdnadiliedikaaDoorCodeU
import Derived.Test.YtfdnadiliedikaaDoorLuL
import Derived.OwnWalk
import Derived.Shelf.Strings.MapGrows
import Derived.Test.YtfdnadiliedikaaDoorDrawCode
import Derived.Test.YtfdnadiliedikaaDoorLuSame
import Derived.Test.YtfdnadiliedikaaDoorCodeS
import Derived.Test.YtfdnadiliedikaaDoorSCodeU
import Derived.Test.YtfdnadiliedikaaDoorDrawTurns
import Derived.Test.YtfdnadiliedikaaDoorLuSameD
import Derived.Test.YtfdnadiliedikaaDoorCards
import Derived.Test.YtfdnadiliedikaaDoorTie
import Derived.ProofKit
import Derived.OpenShut
import Derived.ShutString
import Derived.ChangeOld
import Derived.Below
import Derived.LaidMore
import Derived.MakeChecks
import Derived.Stop.Joined
import Derived.Stop.LaidErr
import Derived.Lib.LaidTab
import Derived.Lib.SmallJoins
namespace Go.Proofs.YtfdnadiliedikaaDoor
open Go.RowKit Go.Sort Go.Conc

theorem word_any (k : Nat) (w : World) : Calls Tryd.prog 55 #[.int .i64 k] w fun e w' => e = .returned (.string ⟨(cwL k).toArray⟩) ∧ Below w.heap.size w w' := by
  by_cases h0 : k = 0
  · subst h0
    go_enter Tryd.func55, Tryd.ntmps55
    go_wp2_with fail
    go_ret
    exact ⟨rfl, bw_refl _⟩
  · have e1 : Hid (cwL k = [71, 49]) := by change _ = _; unfold cwL; rw [if_neg h0]
    have h0' : ((k : Int) == 0) = false := by simp; omega
    go_enter Tryd.func55, Tryd.ntmps55
    go_wp2_with fail
    go_ret
    exact ⟨by rw [e1.out]; rfl, bw_refl _⟩
theorem lnB_eq (k : Nat) (p : P2) : ByteArray.mk (cwL k).toArray ++ ByteArray.mk #[32, 88] ++ ByteArray.mk (Lib.decDigits p.1.toNat).toArray ++ ByteArray.mk #[32, 89] ++ ByteArray.mk (Lib.decDigits p.2.toNat).toArray ++ ByteArray.mk #[10] = lnB k p := by
  unfold lnB lnL
  apply ByteArray.ext
  simp
set_option maxRecDepth 100000 in
set_option maxHeartbeats 1000000 in
theorem codeLine_ok (k : Nat) (p : P2) (hp : okP p = true) (w : World) (hT : Tab w) :
    Calls Tryd.prog 30 #[.int .i64 k, .agg #[.int .i64 p.1, .int .i64 p.2]] w fun e w' => e = .returned (.string (lnB k p)) ∧ Below w.heap.size w w' := by
  obtain ⟨W, hW, BW, T⟩ : ∃ W, W = w.alloc (.cells #[.int .i64 p.1, .int .i64 p.2] 42) ∧ Below w.heap.size w W ∧ W.heap[w.heap.size]? = some (.cells #[.int .i64 p.1, .int .i64 p.2] 42) := ⟨_, rfl, (by repeat (first | exact bw_refl _ | assumption | apply bw_drewN | apply bw_drew | apply bw_alloc | refine bw_set ?_ (by simp) _)), heap_new _ _⟩
  obtain ⟨⟨a, b⟩, c, d⟩ := (okP_iff p).1 hp
  have e1 : Hid (ByteArray.mk (cwL k).toArray ++ ByteArray.mk #[32, 88] ++ ByteArray.mk (Lib.decDigits p.1.toNat).toArray ++ ByteArray.mk #[32, 89] ++ ByteArray.mk (Lib.decDigits p.2.toNat).toArray ++ ByteArray.mk #[10] = lnB k p) := lnB_eq k p
  have l0 : (ByteArray.mk (cwL k).toArray).size = 2 := by have := cwL_len k; unfold ByteArray.size; simpa using this
  have l1 := dec_len p.1 (by omega) (by omega)
  have l2 := dec_len p.2 (by omega) (by omega)
  have hTW := hT.below BW
  have C0 : Hid (∀ d' os, Calls Tryd.prog 55 #[.int .i64 k] (grow (redrawn W d') os) fun e w'' => e = .returned (.string ⟨(cwL k).toArray⟩) ∧ Below (grow (redrawn W d') os).heap.size (grow (redrawn W d') os) w'') := fun d' os => word_any k _
  have C1 : Hid (∀ d' os, Calls Tryd.prog 56 #[.int .i64 p.1] (grow (redrawn W d') os) fun e w'' => e = .returned (.string ⟨(Lib.decDigits p.1.toNat).toArray⟩) ∧ Below (grow (redrawn W d') os).heap.size (grow (redrawn W d') os) w'') := fun d' os => itoa_any p.1 _ (by omega) (by omega) (hTW.below (below_regrown W d' os))
  have C2 : Hid (∀ d' os, Calls Tryd.prog 56 #[.int .i64 p.2] (grow (redrawn W d') os) fun e w'' => e = .returned (.string ⟨(Lib.decDigits p.2.toNat).toArray⟩) ∧ Below (grow (redrawn W d') os).heap.size (grow (redrawn W d') os) w'') := fun d' os => itoa_any p.2 _ (by omega) (by omega) (hTW.below (below_regrown W d' os))
  obtain ⟨t0, t1⟩ := reg_2 T
  obtain ⟨px, py⟩ := p
  dsimp only at *
  clear hp a b c d
  generalize cwL k = cw at *
  go_enter Tryd.func30, Tryd.ntmps30
  go_upto_region 1 with fail
  rw [← hW]
  clear hW
  refine wp_region_quiet_below (by kernel_rfl) (by kernel_rfl) ?_
  repeat (first | go_big_quiet_step (first | (go_at_call 55; with_reducible exact Calls.regrown_of (C0.out _ _)) | (go_at_call 56; with_reducible exact Calls.regrown_of (C1.out _ _)) | (go_at_call 56; with_reducible exact Calls.regrown_of (C2.out _ _))))
  refine wpQuiet_nil ?_
  intro _ hw'
  obtain ⟨⟨dq, osq⟩, hw''⟩ := hw'
  subst hw''
  have J := below_regrown W dq osq
  generalize grow (redrawn W dq) osq = v at J ⊢
  go_wp2_with fail
  go_ret
  exact ⟨ret_str e1.out, bw_trans BW J⟩
end Go.Proofs.YtfdnadiliedikaaDoor
namespace Go.Proofs.YtfdnadiliedikaaDoor
open Go.RowKit Go.Sort Go.Conc

/-- A slice of strings. -/
def StrRow (W : World) (a : Option Addr) (n : Nat) (xs : List ByteArray) : Prop :=
  xs.length = n ∧ (n = 0 ∨ ∃ g, a = some ⟨g, 0, none⟩ ∧ g < W.heap.size ∧ ∀ j x, xs[j]? = some x → W.cell? ⟨g, j, none⟩ = some (.string x))
theorem StrRow.below {W W' : World} {a : Option Addr} {n : Nat} {xs : List ByteArray} (h : StrRow W a n xs) (J : Below W.heap.size W W') : StrRow W' a n xs := by
  obtain ⟨h1, h2⟩ := h
  refine ⟨h1, h2.imp id ?_⟩
  rintro ⟨g, e, hg, hc⟩
  exact ⟨g, e, Nat.lt_of_lt_of_le hg J.size, fun j x hx => (J.cell (p := ⟨g, j, none⟩) hg).trans (hc j x hx)⟩
theorem mkch (n : Nat) (hn : n ≤ 1000000) (w : World) : (Instr.makeChan 79 (.int .i64 (n : Int))).run Tryd.prog w = .ok (.chan (some w.heap.size)) (w.alloc (.chan n #[] false 0 0 false)) := by
  have h : (Tryd.prog.info? 9).map (·.bytes) = some 16 := by kernel_rfl
  obtain ⟨i, hi, hb⟩ := Option.map_eq_some_iff.1 h
  simpa using run_makeChan (P := Tryd.prog) (w := w) Tryd.underlying79 hi .i64 n (by omega) (by rw [hb]; omega)
set_option maxRecDepth 100000 in
set_option maxHeartbeats 2000000 in
theorem sent_ok (a : Option Addr) (n c : Nat) (xs : List ByteArray) (w : World) (hS : StrRow w a n xs) (hn : n ≤ 100000) :
    Calls Tryd.prog 31 #[.slice a n c] w fun e w' => ∃ ch, e = .returned (.chan (some ch)) ∧ w'.heap[ch]? = some (.chan n (xs.map Value.string).toArray true n 0 false) ∧ w.heap.size ≤ ch ∧ Below w.heap.size w w' := by
  have hmk := mkch n (by omega) w
  refine calls_of_wpN Tryd.func31 rfl ?_
  simp only [Tryd.f31, List.size_toArray, List.length_cons, List.length_nil, Nat.reduceAdd, Nat.reduceSub, Array.replicate_succ, Array.replicate_zero, List.push_toArray, List.append_toArray, List.nil_append, List.cons_append]
  refine wpN_seq (wpN_of ?_)
  go_wp2_with fail
  refine wpN_seq (wpN_of ?_)
  go_wp2_with fail
  refine wpN_seq (wpN_seq (wpN_of ?_))
  go_wp2_with fail
  refine wpN_block ?_
  obtain ⟨hSl, hSc⟩ := hS
  have hin : ∀ k, k < n → ∃ x, xs[k]? = some x ∧ ∃ g, a = some ⟨g, 0, none⟩ ∧ g < w.heap.size ∧ w.cell? ⟨g, k, none⟩ = some (.string x) := fun k hk => by
    rcases hSc with h0 | ⟨g, e, hg, hc⟩
    · omega
    · exact ⟨xs[k]'(by omega), List.getElem?_eq_getElem _, g, e, hg, hc k _ (List.getElem?_eq_getElem _)⟩
  refine wpN_loop n (fun j a' w' => ∃ (k : Nat) (x5 x12 x13 x14 x15 x16 x17 : Value), k + j = n ∧ a' = { tmps := #[.slice a n c, undef, .chan none, .chan (some w.heap.size), undef, x5, .slice a n c, .int .i64 n, .chan (some w.heap.size), .slice a n c, .int .i64 n, .int .i64 k, x12, x13, x14, x15, x16, x17, undef, undef], defers := [] } ∧ w'.heap[w.heap.size]? = some (.chan n ((xs.take k).map Value.string).toArray false k 0 false) ∧ Below w.heap.size w w') ?_ ?_ ?_
  · exact ⟨0, _, _, _, _, _, _, _, by omega, rfl, by simpa using heap_new w _, (by repeat (first | exact bw_refl _ | assumption | apply bw_drewN | apply bw_drew | apply bw_alloc | refine bw_set ?_ (by simp) _))⟩
  · rintro j a' w' ⟨k, x5, x12, x13, x14, x15, x16, x17, hk, rfl, hch, hB⟩
    obtain ⟨x, hx, g, rfl, hg, hcx⟩ := hin k (by omega)
    have c0 : w'.cell? ⟨g, k, none⟩ = some (.string x) := (hB.cell (p := ⟨g, k, none⟩) hg).trans hcx
    have hlt : (k : Int) < (n : Int) := by omega
    have i0 : (0 : Int) ≤ (k : Int) := Int.natCast_nonneg _
    refine wpN_seq (wpN_of ?_)
    go_wp2_with fail
    refine wpN_seq (wpN_of ?_)
    go_wp2_with fail
    refine wpN_seq (wpN_block (wpN_seq (wpN_of ?_)))
    go_wp2_with fail
    refine wpN_region ?_
    simp only [List.size_toArray, List.length_cons, List.length_nil, Nat.reduceAdd, List.range, List.range.loop]
    refine wpM_value (w' := w') (v := .chan (some w.heap.size)) rfl (by rfl) (by simp [go_sem]) ?_
    refine wpM_value (w' := w') (v := .string x) rfl (by rfl) (by simp [go_sem, Act.put]) ?_
    refine wpM_send (c := w.heap.size) (v := .string x) (z' := .tuple #[]) rfl (by rfl) (by simp [execOp, scase, Act.eval, Act.put]) hch (by simp; omega) ?_
    refine wpM_done ?_
    simp only [Exit.inBlock, Exit.then]
    refine wpN_of ?_
    have hsn : Hid ((((xs.take k).map Value.string).toArray).push (.string x) = ((xs.take (k + 1)).map Value.string).toArray) := by
      change _ = _
      rw [List.take_add_one, hx]
      simp
    have hlc := blk_lt hch
    rw [hsn.out]
    have hV1 := heap_setChan w' w.heap.size n ((xs.take (k + 1)).map Value.string).toArray false (k + 1) 0 false hlc
    have hV2 := below_setChan hB (Nat.le_refl _) n ((xs.take (k + 1)).map Value.string).toArray false (k + 1) 0 false
    generalize w'.setChan w.heap.size n ((xs.take (k + 1)).map Value.string).toArray false (k + 1) 0 false = V at hV1 hV2 ⊢
    go_wp2_with fail
    exact ⟨k + 1, .string x, .bool true, .pointer (some ⟨g, k, none⟩), .string x, .chan (some w.heap.size), .string x, .int .i64 ((k : Int) + 1), by omega, by simp, hV1, hV2⟩
  · rintro a' w' ⟨k, x5, x12, x13, x14, x15, x16, x17, hk, rfl, hch, hB⟩
    obtain rfl : k = n := by omega
    have hall : Hid (xs.take k = xs) := List.take_of_length_le (by rw [hSl]; exact Nat.le_refl _)
    rw [hall.out] at hch
    have hcl := fun ats ty => run_close_open (P := Tryd.prog) (w := w') ats ty hch
    have hlc := blk_lt hch
    refine wpN_seq (wpN_of ?_)
    go_wp2_with fail
    refine wpN_seq (wpN_of ?_)
    go_wp2_with fail
    refine wpN_seq (wpN_of ?_)
    go_wp2_with fail
    refine wpN_of ?_
    go_wp2_with fail
    refine bodyPost_ret (v := .chan (some w.heap.size)) (by simp [results, go_sem]) rfl ?_
    exact ⟨w.heap.size, rfl, heap_setChan _ _ _ _ _ _ _ _ hlc, Nat.le_refl _, below_setChan hB (Nat.le_refl _) _ _ _ _ _ _⟩
end Go.Proofs.YtfdnadiliedikaaDoor
namespace Go.Proofs.YtfdnadiliedikaaDoor
open Go.RowKit Go.Sort Go.Conc

theorem cells_app' (a b : List UInt8) : Lib.byteCells (a ++ b) = Lib.byteCells a ++ Lib.byteCells b := by unfold Lib.byteCells; rw [List.map_append]
theorem cells_len' (a : List UInt8) : (Lib.byteCells a).length = a.length := by unfold Lib.byteCells; rw [List.length_map]
theorem Tryd.infoS2 : (Tryd.prog.info? 9).map (fun i => (i.zero, i.size, i.bytes)) = some (some (.string ⟨#[]⟩), 1, 16) := by kernel_rfl
/-- The lines of turns, up to a place. -/
def lnsB (t : List P2) (k : Nat) : List ByteArray := (List.range k).map fun i => lnB i (ptAt t i)
theorem lnsB_succ (t : List P2) (k : Nat) : lnsB t (k + 1) = lnsB t k ++ [lnB k (ptAt t k)] := by unfold lnsB; rw [List.range_succ, List.map_append]; rfl
theorem lnsB_len (t : List P2) (k : Nat) : (lnsB t k).length = k := by simp [lnsB]
theorem lnsB_at {t : List P2} {n k : Nat} (h : k < n) : (lnsB t n)[k]? = some (lnB k (ptAt t k)) := by simp [lnsB, h]
theorem cdL_take {t : List P2} {k : Nat} (h : k < t.length) : cdL (t.take (k + 1)) = cdL (t.take k) ++ lnL k (ptAt t k) := by
  rw [take_snoc h, cdL_snoc, List.length_take, Nat.min_eq_left (by omega)]
theorem turnsV_ok (l : List P2) : ∀ p ∈ turnsV l, okP p = true := by
  unfold turnsV
  split
  · rename_i h; exact turns_okP h
  · intro p hp; cases hp
theorem cdV_eq (l : List P2) : cdV l = cdB (turnsV l) := by
  unfold cdV turnsV
  split <;> rfl
theorem builder_only {T e : TypeId} {B b c : Nat} {bs : List Value} {W W' : World} (h : Lib.IsBuilderF T e B b bs W) (O : Only c W W') (hc : ∀ cs t fz, W.heap[c]? ≠ some (.cells cs t fz)) : Lib.IsBuilderF T e B b bs W' := by
  have key : ∀ p, Lib.BuilderAtF T e B b p bs W → Lib.BuilderAtF T e B b p bs W' := fun p h => by
    obtain ⟨hB, v, hb, hown, hne⟩ := h
    have hbc : b ≠ c := fun e => hc _ _ _ (by rw [← e]; exact hb)
    refine ⟨hB, v, (O.block b hbc (Array.getElem?_eq_some_iff.1 hb).1).trans hb, ?_, hne⟩
    refine ⟨hown.1, hown.2.imp id ?_⟩
    rintro ⟨g, cap, cur, fz, rfl, hbg, hg, r⟩
    exact ⟨g, cap, cur, fz, rfl, hbg, (O.block g (fun e => hc _ _ _ (by rw [← e]; exact hg)) (Array.getElem?_eq_some_iff.1 hg).1).trans hg, r⟩
  exact h.imp (key _) (key _)
set_option maxRecDepth 100000 in
set_option maxHeartbeats 4000000 in
theorem codeWrite_any (a : Option Addr) (np cp : Nat) (l : List P2) (w : World) (hn : np ≤ 1048576) (hcp : np ≤ cp) (hP : Pts w.heap.size w a np l) (hT : Tab w) :
    Calls Tryd.prog 11 #[.slice a np cp] w fun e w' => e = .returned (.string (cdV l)) ∧ Below w.heap.size w w' := by
  obtain ⟨i0, hi0, hz0, hz1, hz2⟩ := info_parts Tryd.infoS2
  have hC := codeTurns_any a np cp l w hn hcp hP
  have HOK := turnsV_ok l
  have h400 := turnsV_len l
  have HV : Hid (cdV l = cdB (turnsV l)) := cdV_eq l
  generalize turnsV l = T at *
  refine calls_of_wpN Tryd.func11 rfl ?_
  simp only [Tryd.f11, List.size_toArray, List.length_cons, List.length_nil, Nat.reduceAdd, Nat.reduceSub, Array.replicate_succ, Array.replicate_zero, List.push_toArray, List.append_toArray, List.nil_append, List.cons_append]
  refine wpN_seq (wpN_of ?_)
  go_wp2_with fail
  refine wpN_seq (wpN_of ?_)
  go_wp2_with fail
  refine hC.mono ?_
  clear hC hP
  rintro e w1 ⟨v, rfl, hA, J1⟩
  obtain ⟨a1, c1, rfl, hP1⟩ := hA.own
  obtain ⟨m, hm⟩ : ∃ m, T.length = m := ⟨_, rfl⟩
  have HL : Hid (T.length = m) := hm
  rw [hm] at hP1 h400
  rw [hm]
  clear hm hA
  have hT1 := hT.below J1
  have z1 := J1.size
  go_wp2_with fail
  refine wpN_seq (wpN_of ?_)
  go_wp2_with (at_make; refine wpList_make_own _ rfl _ _ 46 rfl w1.heap.size 9 i0 _ 1 Tryd.underlying46 hi0 hz0 hz1 .i64 .i64 _ m rfl rfl rfl (by rw [hz2]; omega) (by simp [maxLen]; omega) (Nat.le_refl _) ?_; intro w2 hown hgr)
  have hB2 : Below w1.heap.size w1 w2 := (Below.refl _ _).grown hgr (Nat.le_refl _) (fun k e => by cases e)
  have z2 := hgr.size
  have zown := (hown.lt _ rfl).2
  clear hgr
  refine wpN_seq (wpN_seq (wpN_of ?_))
  go_wp2_with fail
  refine wpN_of ?_
  go_wp2_with fail
  go_loopw [4, 16] (fun s i wr => ∃ k : Nat, k ≤ m ∧ i = .int .i64 k ∧ s = .slice (some ⟨w1.heap.size, 0, none⟩) k m ∧ wr.ownsRow w1.heap.size 9 1 (.slice (some ⟨w1.heap.size, 0, none⟩) k m) k ((lnsB T k).map Value.string) ∧ Below w1.heap.size w1 wr) (fun _ i _ => m - (intOf i).toNat)
  case atStart => exact ⟨0, Nat.zero_le _, rfl, rfl, hown, hB2⟩
  case round =>
    obtain ⟨k, hk, rfl, rfl, hown, hnx⟩ := hrel
    have zr := hnx.size
    by_cases hlt : k < m
    case pos =>
      rcases hP1.2 with h0 | ⟨b, off, rfl, hbl, hcs⟩
      · omega
      obtain ⟨c0, c1⟩ := hcs k hlt
      have d0 := (hnx.cell (p := ⟨b, off + k * 2, none⟩) hbl).trans c0
      have d1 := (hnx.cell (p := ⟨b, off + k * 2 + 1, none⟩) hbl).trans c1
      have hpk : okP (ptAt T k) = true := HOK _ (by rw [ptAt_lt (by rw [HL.out]; exact hlt)]; exact List.getElem_mem _)
      have hsn : Hid ((lnsB T (k + 1)).map Value.string = (lnsB T k).map Value.string ++ [.string (lnB k (ptAt T k))]) := by
        change _ = _; rw [lnsB_succ, List.map_append]; rfl
      have j0 : (0 : Int) ≤ (k : Int) := Int.natCast_nonneg _
      have j1 : (k : Int) < (m : Int) := by omega
      clear hcs c0 c1
      obtain ⟨V, hV, BV, TV⟩ : ∃ V, V = wr.alloc (.cells #[.int .i64 (ptAt T k).1, .int .i64 (ptAt T k).2] 42) ∧ Below wr.heap.size wr V ∧ V.heap[wr.heap.size]? = some (.cells #[.int .i64 (ptAt T k).1, .int .i64 (ptAt T k).2] 42) := ⟨_, rfl, (by repeat (first | exact bw_refl _ | assumption | apply bw_drewN | apply bw_drew | apply bw_alloc | refine bw_set ?_ (by simp) _)), heap_new _ _⟩
      have hownV : V.ownsRow w1.heap.size 9 1 (.slice (some ⟨w1.heap.size, 0, none⟩) k m) k ((lnsB T k).map Value.string) := by rw [hV]; exact hown.alloc _
      have hnV := bw_trans hnx BV
      go_upto_region 6 with fail
      rw [← hV]
      clear hV d0 d1 hown
      obtain ⟨t0, t1⟩ := blk_2 TV
      go_wp2_with fail
      refine (codeLine_ok k _ hpk _ (hT1.below hnV)).mono ?_
      rintro e w3 ⟨rfl, J⟩
      have hK2 := bw_trans hnV J
      have hown2 : w3.ownsRow w1.heap.size 9 1 (.slice (some ⟨w1.heap.size, 0, none⟩) k m) k ((lnsB T k).map Value.string) := hownV.kept (row := none) ⟨J.os, J.tape, J.output, J.size, fun j hj _ => J.block j hj⟩ (Classical.em _)
      have hz2' := hK2.size
      clear t0 t1
      go_wp2_with (at_builtin; refine wpList_append_fits _ rfl _ _ 46 rfl w1.heap.size 9 i0 1 Tryd.underlying46 hi0 hz1 w1.heap.size k m _ rfl (hown2.alloc _) ⟨w3.heap.size, 0, none⟩ 1 1 [.string (lnB k (ptAt T k))] rfl rfl (World.news_of_block (cs := #[.string (lnB k (ptAt T k))]) (t := 9) (fr := (0, 0)) (heap_alloc_new w3 _)) (by simp [Value.oneCell']) (by omega) ?_; intro w4 hown3 hgr3)
      go_roundw
      case rel => exact ⟨k + 1, by omega, by simp, rfl, by rw [hsn.out]; exact hown3, (hK2.alloc hz2' _).grown hgr3 (by simp; omega) (fun j e => by have e' : w1.heap.size = j := Option.some.inj e; omega)⟩
      case measure => simp [intOf]; omega
    case neg =>
    obtain rfl : k = m := by omega
    go_wp2_with fail
    have Kr := bw_trans J1 hnx
    have hcells : ∀ j x, (lnsB T k)[j]? = some x → wr.cell? ⟨w1.heap.size, j, none⟩ = some (.string x) := fun j x hx => by
      have hj := (List.getElem?_eq_some_iff.1 hx).1
      rw [lnsB_len] at hj
      rw [hown.cellAt j (by omega), List.getElem?_map, hx]; rfl
    have hBB : Below wr.heap.size wr (wr.alloc (.cells #[.pointer none, .slice none 0 0] 50)) := (by repeat (first | exact bw_refl _ | assumption | apply bw_drewN | apply bw_drew | apply bw_alloc | refine bw_set ?_ (by simp) _))
    have hSR : StrRow (wr.alloc (.cells #[.pointer none, .slice none 0 0] 50)) (some ⟨w1.heap.size, 0, none⟩) k (lnsB T k) :=
      StrRow.below (W := wr) ⟨lnsB_len T k, .inr ⟨w1.heap.size, rfl, (hown.lt _ rfl).2, hcells⟩⟩ hBB
    have hnew := heap_new wr (.cells #[.pointer none, .slice none 0 0] 50)
    have hI : Lib.IsBuilderF 50 5 wr.heap.size wr.heap.size (Lib.byteCells (cdL (T.take 0))) (wr.alloc (.cells #[.pointer none, .slice none 0 0] 50)) :=
      .inl ⟨Nat.le_refl _, .slice none 0 0, hnew, World.ownsRowF_nil _ _ _ _, by simp [Value.ownBlock]⟩
    have hSent := sent_ok (some ⟨w1.heap.size, 0, none⟩) k k (lnsB T k) _ hSR (by omega)
    have hsz0 : (wr.alloc (.cells #[.pointer none, .slice none 0 0] 50)).heap.size = wr.heap.size + 1 := by simp
    clear hSR hcells hnew
    refine wpN_seq (wpN_of ?_)
    go_wp2_with fail
    obtain ⟨v1, hv1⟩ : ∃ v1, wr.alloc (.cells #[.pointer none, .slice none 0 0] 50) = v1 := ⟨_, rfl⟩
    rw [hv1] at hI hBB hSent hsz0 ⊢
    clear hv1
    refine wpN_seq (wpN_seq (wpN_of ?_))
    go_wp2_with fail
    refine hSent.mono ?_
    clear hSent
    rintro e w5 ⟨ch, rfl, hch, hcb, J5⟩
    go_wp2_with fail
    refine wpN_block ?_
    have hI5 := hI.below J5
    have hB5 := bw_trans hBB J5
    have hch0 : w5.heap[ch]? = some (.chan k (((lnsB T k).drop 0).map Value.string).toArray true k 0 false) := by rw [List.drop_zero]; exact hch
    clear hch hI
    refine wpN_loop k (fun j a' w' => ∃ (q : Nat) (x8 x30 x31 x32 x33 x34 : Value), q + j = k ∧ a' = { tmps := #[.slice a np cp, undef, .string ⟨#[]⟩, .slice a1 k c1, .slice (some ⟨w1.heap.size, 0, none⟩) k k, u5, u6, .pointer (some ⟨wr.heap.size, 0, none⟩), x8, .slice a np cp, .slice a1 k c1, .slice a1 k c1, .int .i64 k, .slice (some ⟨w1.heap.size, 0, none⟩) 0 k, .slice a1 k c1, .int .i64 k, .int .i64 k, .bool false, u18, u19, u20, u21, u22, u23, u24, u25, u26, u27, .slice (some ⟨w1.heap.size, 0, none⟩) k k, .chan (some ch), x30, x31, x32, x33, x34, undef], defers := [] } ∧ w'.heap[ch]? = some (.chan k (((lnsB T k).drop q).map Value.string).toArray true k q false) ∧ Lib.IsBuilderF 50 5 wr.heap.size wr.heap.size (Lib.byteCells (cdL (T.take q))) w' ∧ Below wr.heap.size wr w') ?_ ?_ ?_
    · exact ⟨0, _, _, _, _, _, _, by omega, rfl, hch0, hI5, hB5⟩
    · rintro j a' w' ⟨q, x8, x30, x31, x32, x33, x34, hq, rfl, hcw, hIw, hBw⟩
      have hqk : q < k := by omega
      have hdr : (lnsB T k).drop q = lnB q (ptAt T q) :: (lnsB T k).drop (q + 1) := by
        obtain ⟨h1, h2⟩ := List.getElem?_eq_some_iff.1 (lnsB_at (t := T) hqk)
        rw [← h2, ← List.drop_eq_getElem_cons h1]
      rw [hdr] at hcw
      clear hdr
      have zB := hBw.size
      have hpq : okP (ptAt T q) = true := HOK _ (by rw [ptAt_lt (by rw [HL.out]; exact hqk)]; exact List.getElem_mem _)
      have hlq : (lnB q (ptAt T q)).size = 9 := lnB_size hpq
      have hln : (cdL (T.take q)).length = 9 * q := by rw [cdL_len (fun p hp => HOK p (List.mem_of_mem_take hp)), List.length_take, HL.out, Nat.min_eq_left (by omega)]
      have htk : Hid (cdL (T.take (q + 1)) = cdL (T.take q) ++ lnL q (ptAt T q)) := cdL_take (by rw [HL.out]; exact hqk)
      obtain ⟨rs, hrs⟩ : ∃ rs, (lnsB T k).drop (q + 1) = rs := ⟨_, rfl⟩
      have HRS : Hid ((lnsB T k).drop (q + 1) = rs) := hrs
      rw [hrs] at hcw
      clear hrs
      refine wpN_seq (wpN_region ?_)
      simp only [List.size_toArray, List.length_cons, List.length_nil, Nat.reduceAdd, List.range, List.range.loop]
      refine wpM_recv (ok := true) (c := ch) (z := .string ⟨#[]⟩) rfl (by rfl) (by simp [go_sem, rcase]) hcw (by simp) ?_
      have hlc := blk_lt hcw
      have hext : ((lnB q (ptAt T q) :: rs).map Value.string).toArray.extract 1 ((lnB q (ptAt T q) :: rs).map Value.string).toArray.size = (rs.map Value.string).toArray := by simp [List.take_of_length_le]
      have hget : ((lnB q (ptAt T q) :: rs).map Value.string).toArray.getD 0 undef = .string (lnB q (ptAt T q)) := by simp
      rw [hext, hget]
      simp only [got, if_true]
      have OC : Only ch w' (w'.setChan ch k (rs.map Value.string).toArray true k (q + 1) false) := ⟨rfl, rfl, rfl, by simp [World.setChan], fun i hi _ => by simp only [World.setChan]; rw [Array.getElem?_setIfInBounds_ne (Ne.symm hi)]⟩
      have hV1 := heap_setChan w' ch k (rs.map Value.string).toArray true k (q + 1) false hlc
      have hV2 := below_setChan hBw (show wr.heap.size ≤ ch by omega) k (rs.map Value.string).toArray true k (q + 1) false
      have hV3 := builder_only hIw OC (by rw [hcw]; intro cs t fz e; cases e)
      generalize w'.setChan ch k (rs.map Value.string).toArray true k (q + 1) false = V at hV1 hV2 hV3 ⊢
      refine wpM_value (w' := V) (v := .bool true) rfl (by rfl) (by simp [go_sem, Act.put]) ?_
      refine wpM_done ?_
      simp only [Exit.then]
      have hW := shelf_Builder_WriteString wr.heap.size wr.heap.size (Lib.byteCells (cdL (T.take q))) (lnB q (ptAt T q)) V hV3 (by rw [cells_len']; omega) hV2.size
      refine wpN_of ?_
      go_wp2_with fail
      refine hW.mono ?_
      clear hW
      rintro e w9 ⟨rfl, hA9, J9, hO9⟩
      have hc9 : w9.heap[ch]? = some (.chan k (rs.map Value.string).toArray true k (q + 1) false) := hO9 ch _ hV1 (by simp; omega) (by rintro c fz e; cases e)
      have hI9 : Lib.IsBuilderF 50 5 wr.heap.size wr.heap.size (Lib.byteCells (cdL (T.take (q + 1)))) w9 := by rw [htk.out, cells_app']; exact .inr hA9
      go_wp2_with fail
      exact ⟨q + 1, .string (lnB q (ptAt T q)), .tuple #[.string (lnB q (ptAt T q)), .bool true], .bool true, .string (lnB q (ptAt T q)), .string (lnB q (ptAt T q)), _, by omega, rfl, by rw [HRS.out]; exact hc9, hI9, hV2.trans J9⟩
    · rintro a' w' ⟨q, x8, x30, x31, x32, x33, x34, hq, rfl, hcw, hIw, hBw⟩
      obtain rfl : q = k := by omega
      have hdr : (lnsB T q).drop q = [] := List.drop_eq_nil_of_le (by rw [lnsB_len]; exact Nat.le_refl _)
      rw [hdr] at hcw
      have hTT : T.take q = T := List.take_of_length_le (by rw [HL.out]; exact Nat.le_refl _)
      rw [hTT] at hIw
      clear hdr hTT
      have zB := hBw.size
      have hS := shelf_Builder_String_any_k wr.heap.size wr.heap.size (cdL T) w' hIw zB
      have e2 : Hid (cdV l = ⟨(cdL T).toArray⟩) := HV.out
      refine wpN_seq (wpN_region ?_)
      simp only [List.size_toArray, List.length_cons, List.length_nil, Nat.reduceAdd, List.range, List.range.loop]
      refine wpM_shut (ok := true) (c := ch) (z := .string ⟨#[]⟩) rfl (by rfl) (by simp [go_sem, rcase]) hcw ?_
      simp only [got, if_true]
      refine wpM_value (w' := w') (v := .bool false) rfl (by rfl) (by simp [go_sem, Act.put]) ?_
      refine wpM_done ?_
      simp only [Exit.then]
      refine wpN_of ?_
      go_wp2_with fail
      refine wpN_seq (wpN_of ?_)
      go_wp2_with fail
      refine hS.mono ?_
      rintro e w9 ⟨rfl, -, J9, -⟩
      go_wp2_with fail
      refine wpN_of ?_
      go_wp2_with fail
      refine bodyPost_ret (v := .string ⟨(cdL T).toArray⟩) (by simp [results, go_sem]) rfl ?_
      exact ⟨by rw [e2.out], bw_trans Kr (hBw.trans J9)⟩
end Go.Proofs.YtfdnadiliedikaaDoor
namespace Go.Proofs.YtfdnadiliedikaaDoor
open Go.RowKit Go.Sort

theorem one_path {p : P2} (h : okP p = true) : pathP [p] = true := pathP_of (by simp) (fun q hq => by rw [List.mem_singleton.1 hq]; exact h) rfl
theorem one_stay {p : P2} (h : okP p = true) : stayV [p] = true ∧ stayR [p] = [p] := by
  have h1 : stayV [p] = true := stayV_of (by simp) (fun q hq => by rw [List.mem_singleton.1 hq]; exact h) rfl (by show 1 ≤ 400; omega)
  refine ⟨h1, ?_⟩
  unfold stayR
  rw [h1, if_pos rfl]
  rfl
theorem two_stay (p : P2) : stayV [p, p] = false := stayV_inl (i := 0) (by simp) (by show inlP p p = false; unfold inlP; simp)
theorem no_stay : stayV [] = false := stayV_len (by simp)
/-- The text of a path begins with its first word. -/
theorem path_text {l : List P2} (h : pathP l = true) : 2 ≤ (cdV l).size ∧ (cdV l).extract 0 2 = ⟨#[71, 48]⟩ := by
  unfold cdV
  rw [h, if_pos rfl]
  obtain ⟨r, hr⟩ := cdL_head (turnsL_nil (pathP_parts h).1.1)
  unfold cdB
  rw [hr]
  refine ⟨by unfold ByteArray.size; simp, ?_⟩
  apply ByteArray.ext
  simp
theorem pts_one (W : World) (x y : Int) : Pts (W.alloc (.cells #[.int .i64 x, .int .i64 y] 42)).heap.size (W.alloc (.cells #[.int .i64 x, .int .i64 y] 42)) (some ⟨W.heap.size, 0, none⟩) 1 [(x, y)] := by
  refine ⟨rfl, .inr ⟨W.heap.size, 0, rfl, by simp, fun j hj => ?_⟩⟩
  obtain rfl : j = 0 := by omega
  obtain ⟨h0, h1, _, _⟩ := blk2 (heap_new W (.cells #[.int .i64 x, .int .i64 y] 42))
  exact ⟨h0, h1⟩
theorem pts_two (W : World) (x y : Int) : Pts (W.alloc (.cells #[.int .i64 x, .int .i64 y, .int .i64 x, .int .i64 y] 42)).heap.size (W.alloc (.cells #[.int .i64 x, .int .i64 y, .int .i64 x, .int .i64 y] 42)) (some ⟨W.heap.size, 0, none⟩) 2 [(x, y), (x, y)] := by
  refine ⟨rfl, .inr ⟨W.heap.size, 0, rfl, by simp, fun j hj => ?_⟩⟩
  obtain ⟨h0, h1, h2, h3, _⟩ := blk4 (heap_new W (.cells #[.int .i64 x, .int .i64 y, .int .i64 x, .int .i64 y] 42))
  rcases (by omega : j = 0 ∨ j = 1) with rfl | rfl
  · exact ⟨h0, h1⟩
  · exact ⟨h2, h3⟩
set_option maxRecDepth 100000 in
set_option maxHeartbeats 4000000 in
theorem stayOne_walk (w : World) (a0 : Option Addr) (len0 cap0 : Nat) (z0 : List Int) (r0 : IsRow .u8 w a0 len0 cap0 z0) (a1 : Option Addr) (len1 cap1 : Nat) (z1 : List Int) (_ : IsRow .u8 w a1 len1 cap1 z1) (hT : Tab w) :
    Calls Tryd.prog 9 #[.slice a0 len0 cap0, .slice a1 len1 cap1] w fun e w' => e = .returned (.bool true) ∧ Below w.heap.size w w' := by
  by_cases hl0 : (1048576 : Int) < (len0 : Int)
  · go_enter Tryd.func9, Tryd.ntmps9
    go_wp2_with fail
    go_ret
    exact ⟨rfl, bw_refl _⟩
  by_cases hl1 : (1048576 : Int) < (len1 : Int)
  · go_enter Tryd.func9, Tryd.ntmps9
    go_wp2_with fail
    go_ret
    exact ⟨rfl, bw_refl _⟩
  obtain ⟨px, hpx⟩ : ∃ px, (len1 : Int) % 10 = px := ⟨_, rfl⟩
  obtain ⟨py, hpy⟩ : ∃ py, (len1 : Int) / 2 % 10 = py := ⟨_, rfl⟩
  have hok : okP (px, py) = true := by rw [okP_iff]; simp only; omega
  have t1 : (len1 : Int).tmod 10 = px := by rw [Int.tmod_eq_emod_of_nonneg (by omega)]; exact hpx
  have t2 : ((len1 : Int).tdiv 2).tmod 10 = py := by rw [Int.tdiv_eq_ediv_of_nonneg (by omega), Int.tmod_eq_emod_of_nonneg (by omega)]; exact hpy
  go_enter Tryd.func9, Tryd.ntmps9
  go_wp2_with fail
  refine (drawStay_any w _ r0 (bw_refl _)).mono ?_
  rintro e w1 ⟨g, c, l, rfl, hl1', hl8, hPB, hlc, hb, J1⟩
  have hP1 := hb.pts' rfl
  obtain ⟨n, hn⟩ : ∃ n, n = l.length := ⟨_, rfl⟩
  have HL : Hid (l.length = n) := hn.symm
  rw [← hn] at hP1 hl1' hl8 hlc
  rw [← hn]
  clear hb hn
  have hSS := sCodeStay_any (some ⟨g, 0, none⟩) n c l w1 (by omega) hP1
  have hII := fun V (J : Below w1.heap.size w1 V) => codeStay_any (some ⟨g, 0, none⟩) n c l V (by omega) hlc ((hP1.below J).grow J.size)
  have h400 := stayR_len l
  have hbb : ∀ b : Bool, (b != b) = false := by simp
  go_wp2_with fail
  refine hSS.mono ?_
  rintro e w2 ⟨v2, rfl, A2, J2⟩
  go_wp2_with fail
  refine (hII _ J2).mono ?_
  rintro e w3 ⟨v3, rfl, A3, J3⟩
  replace A2 := A2.below J3
  obtain ⟨a2, c2, rfl, P2'⟩ := A2.own
  obtain ⟨a3, c3, rfl, P3⟩ := A3.own
  have hSm := luSame_same a3 a2 (stayR l).length c3 c2 (stayR l) w3 P3 P2' (by omega)
  go_wp2_with fail
  refine hSm.mono ?_
  rintro e w4 ⟨rfl, J4⟩
  have J14 := bw_trans J1 (bw_trans J2 (bw_trans J3 J4))
  obtain ⟨V0, hV0, B0, T0⟩ : ∃ V, V = w4.alloc (.cells #[.int .i64 px, .int .i64 py] 42) ∧ Below w4.heap.size w4 V ∧ V.heap[w4.heap.size]? = some (.cells #[.int .i64 px, .int .i64 py] 42) := ⟨_, rfl, (by repeat (first | exact bw_refl _ | assumption | apply bw_drewN | apply bw_drew | apply bw_alloc | refine bw_set ?_ (by simp) _)), heap_new _ _⟩
  have zV0 : V0.heap.size = w4.heap.size + 1 := by rw [hV0]; simp
  obtain ⟨V1, hV1, B1⟩ : ∃ V, V = V0.alloc (.cells #[.int .i64 px, .int .i64 py] 42) ∧ Below V0.heap.size V0 V := ⟨_, rfl, (by repeat (first | exact bw_refl _ | assumption | apply bw_drewN | apply bw_drew | apply bw_alloc | refine bw_set ?_ (by simp) _))⟩
  have hone := pts_one V0 px py
  rw [← hV1, zV0] at hone
  have hV01 : V1 = (w4.alloc (.cells #[.int .i64 px, .int .i64 py] 42)).alloc (.cells #[.int .i64 px, .int .i64 py] 42) := by rw [hV1, hV0]
  have hC1 := codeStay_any (some ⟨w4.heap.size + 1, 0, none⟩) 1 1 [(px, py)] V1 (by omega) (by omega) hone
  rw [(one_stay hok).1, (one_stay hok).2] at hC1
  have JV1 := bw_trans J14 (bw_trans B0 B1)
  clear hV1 hV0
  go_wp2_with fail
  rw [← hV01]
  clear hV01
  refine hC1.mono ?_
  clear hC1
  rintro e w5 ⟨v5, rfl, A5, J5⟩
  obtain ⟨a5, c5, rfl, P5⟩ := A5.own
  have P5' : Pts w5.heap.size w5 a5 1 [(px, py)] := P5
  have T5 := keep J5 (keep B1 T0)
  obtain ⟨p0, p1, p2, p3⟩ := blk2 T5
  have htwo := pts_two w5 px py
  have BW5 : Below w5.heap.size w5 (w5.alloc (.cells #[.int .i64 px, .int .i64 py, .int .i64 px, .int .i64 py] 42)) := (by repeat (first | exact bw_refl _ | assumption | apply bw_drewN | apply bw_drew | apply bw_alloc | refine bw_set ?_ (by simp) _))
  have hC2 := codeStay_any (some ⟨w5.heap.size, 0, none⟩) 2 2 [(px, py), (px, py)] _ (by omega) (by omega) htwo
  rw [two_stay] at hC2
  go_wp2_with fail
  refine hC2.mono ?_
  clear hC2 htwo p0 p1 p2 p3
  rintro e w6 ⟨v6, rfl, -, J6⟩
  have J56 := bw_trans BW5 J6
  have hC3 := codeStay_any none 0 0 [] w6 (by omega) (by omega) ⟨rfl, .inl rfl⟩
  rw [no_stay] at hC3
  go_wp2_with fail
  refine hC3.mono ?_
  clear hC3
  rintro e w7 ⟨v7, rfl, -, J7⟩
  have J57 := bw_trans J56 J7
  obtain ⟨p0, p1, p2, p3⟩ := blk2 (keep J57 T5)
  have h7 := pts_one w7 px py
  have BW7 : Below w7.heap.size w7 (w7.alloc (.cells #[.int .i64 px, .int .i64 py] 42)) := (by repeat (first | exact bw_refl _ | assumption | apply bw_drewN | apply bw_drew | apply bw_alloc | refine bw_set ?_ (by simp) _))
  have J5W := bw_trans J57 BW7
  have hS7 := luSame_same a5 (some ⟨w7.heap.size, 0, none⟩) 1 c5 1 [(px, py)] _ ((P5'.below J5W).grow J5W.size) h7 (by omega)
  go_wp2_with fail
  refine hS7.mono ?_
  clear hS7 h7 p0 p1 p2 p3
  rintro e w8 ⟨rfl, J8⟩
  have J58 := bw_trans J5W J8
  obtain ⟨p0, p1, p2, p3⟩ := blk2 (keep J58 T5)
  have h8 := pts_one w8 px py
  have BW8 : Below w8.heap.size w8 (w8.alloc (.cells #[.int .i64 px, .int .i64 py] 42)) := (by repeat (first | exact bw_refl _ | assumption | apply bw_drewN | apply bw_drew | apply bw_alloc | refine bw_set ?_ (by simp) _))
  have J5X := bw_trans J58 BW8
  have JX := bw_trans JV1 (bw_trans J5 J5X)
  have hW8 := codeWrite_any (some ⟨w8.heap.size, 0, none⟩) 1 1 [(px, py)] _ (by omega) (by omega) h8 (hT.below JX)
  obtain ⟨hs2, hse⟩ := path_text (one_path hok)
  generalize cdV [(px, py)] = s at hW8 hs2 hse
  have i2 : (2 : Int) ≤ (s.size : Int) := by omega
  go_wp2_with fail
  refine hW8.mono ?_
  clear hW8 h8
  rintro e w9 ⟨rfl, J9⟩
  go_wp2_with fail
  go_ret
  exact ⟨rfl, bw_trans JX J9⟩
end Go.Proofs.YtfdnadiliedikaaDoor
namespace Go.Proofs.YtfdnadiliedikaaDoor
open Go.RowKit Go.Sort

theorem cdB_step (X : ByteArray) (t : List P2) (k : Nat) (hk : k < t.length) (hX : X = cdB (t.take k)) :
    X ++ ByteArray.mk (cwL k).toArray ++ ByteArray.mk #[32, 88] ++ ByteArray.mk (Lib.decDigits (ptAt t k).1.toNat).toArray ++ ByteArray.mk #[32, 89] ++ ByteArray.mk (Lib.decDigits (ptAt t k).2.toNat).toArray ++ ByteArray.mk #[10] = cdB (t.take (k + 1)) := by
  subst hX
  rw [take_snoc hk, cdB_snoc, List.length_take, Nat.min_eq_left (by omega)]
  unfold lnB lnL
  apply ByteArray.ext
  simp
set_option maxRecDepth 100000 in
set_option maxHeartbeats 4000000 in
theorem sWrite_ok (a : Option Addr) (np cp : Nat) (l : List P2) (w : World) (hP : Pts w.heap.size w a np l) (hp : pathP l = true) :
    Calls Tryd.prog 35 #[.slice a np cp] w fun e w' => e = .returned (.string (cdB (turnsL l))) ∧ Below w.heap.size w w' := by
  have hC := sTurns_ok a np cp l w hP hp
  have HOK := turns_okP hp
  have h400 : (turnsL l).length ≤ 400 := by have := turnsL_le l; have := (pathP_parts hp).1.2; omega
  generalize turnsL l = T at *
  go_enter Tryd.func35, Tryd.ntmps35
  go_wp2_with fail
  refine hC.mono ?_
  clear hC hP
  rintro e w1 ⟨v, rfl, hA, J1⟩
  obtain ⟨a1, c1, rfl, hP1⟩ := hA.own
  obtain ⟨m, hm⟩ : ∃ m, T.length = m := ⟨_, rfl⟩
  have HL : Hid (T.length = m) := hm
  rw [hm] at hP1 h400
  rw [hm]
  clear hm hA
  have H0 : Hid (cdB (T.take 0) = ⟨#[]⟩) := rfl
  have HE : Hid (cdB (T.take m) = cdB T) := by change _ = _; rw [List.take_of_length_le (by rw [HL.out]; exact Nat.le_refl _)]
  go_wp2_with fail
  go_loopw [4, 5] (fun s i wr => ∃ k : Nat, k ≤ m ∧ i = .int .i64 k ∧ s = .string (cdB (T.take k)) ∧ Below w1.heap.size w1 wr) (fun _ i _ => m - (intOf i).toNat)
  case atStart => exact ⟨0, Nat.zero_le _, rfl, by rw [H0.out], bw_refl _⟩
  case round =>
    obtain ⟨k, hk, rfl, rfl, hnx⟩ := hrel
    by_cases hlt : k < m
    case neg =>
      obtain rfl : k = m := by omega
      rw [HE.out]
      go_wp2_with fail
      go_ret
      exact ⟨rfl, bw_trans J1 hnx⟩
    case pos =>
      rcases hP1.2 with h0 | ⟨b, off, rfl, hbl, hcs⟩
      · omega
      obtain ⟨c0, c1'⟩ := hcs k hlt
      have d0 := cell_regrown ((hnx.cell (p := ⟨b, off + k * 2, none⟩) hbl).trans c0)
      have d1 := cell_regrown ((hnx.cell (p := ⟨b, off + k * 2 + 1, none⟩) hbl).trans c1')
      have hpk : okP (ptAt T k) = true := HOK _ (by rw [ptAt_lt (by rw [HL.out]; exact hlt)]; exact List.getElem_mem _)
      obtain ⟨⟨g0, g1⟩, g2, g3⟩ := (okP_iff _).1 hpk
      have hsz : (cdB (T.take k)).size ≤ 3600 := by
        rw [cdB_size (fun p hp => HOK p (List.mem_of_mem_take hp)), List.length_take]; omega
      have hst := cdB_step (cdB (T.take k)) T k (by rw [HL.out]; exact hlt) rfl
      have l1 := dec_len (ptAt T k).1 (by omega) (by omega)
      have l2 := dec_len (ptAt T k).2 (by omega) (by omega)
      have C1 : Hid (∀ d' os, Calls Tryd.prog 60 #[.int .i64 (ptAt T k).1] (grow (redrawn wr d') os) fun e w'' => e = .returned (.string ⟨(Lib.decDigits (ptAt T k).1.toNat).toArray⟩) ∧ Below (grow (redrawn wr d') os).heap.size (grow (redrawn wr d') os) w'') := fun d' os => dec_int _ _ (by omega) (by omega)
      have C2 : Hid (∀ d' os, Calls Tryd.prog 60 #[.int .i64 (ptAt T k).2] (grow (redrawn wr d') os) fun e w'' => e = .returned (.string ⟨(Lib.decDigits (ptAt T k).2.toNat).toArray⟩) ∧ Below (grow (redrawn wr d') os).heap.size (grow (redrawn wr d') os) w'') := fun d' os => dec_int _ _ (by omega) (by omega)
      have j0 : (0 : Int) ≤ (k : Int) := Int.natCast_nonneg _
      have j1 : (k : Int) < (m : Int) := by omega
      have HST : Hid _ := hst
      obtain ⟨nx, hx⟩ : ∃ nx, cdB (T.take (k + 1)) = nx := ⟨_, rfl⟩
      rw [hx] at HST
      have HX : Hid (cdB (T.take (k + 1)) = nx) := hx
      generalize cdB (T.take k) = X at *
      generalize (ptAt T k).1 = px at *
      generalize (ptAt T k).2 = py at *
      clear hcs c0 c1' hst hx g0 g1 g2 g3 hpk
      rcases Nat.eq_zero_or_pos k with h0 | h0
      · subst h0
        rw [Nat.zero_mul, Nat.add_zero] at d0 d1
        have e1 : Hid (X ++ ByteArray.mk #[71, 48] ++ ByteArray.mk #[32, 88] ++ ByteArray.mk (Lib.decDigits px.toNat).toArray ++ ByteArray.mk #[32, 89] ++ ByteArray.mk (Lib.decDigits py.toNat).toArray ++ ByteArray.mk #[10] = nx) := HST.out
        clear HST
        go_wp2_with fail
        refine wp_region_quiet_below (by kernel_rfl) (by kernel_rfl) ?_
        repeat (first | go_big_quiet_step (first | (go_at_call 60; with_reducible exact Calls.regrown_of (C1.out _ _)) | (go_at_call 60; with_reducible exact Calls.regrown_of (C2.out _ _))))
        refine wpQuiet_nil ?_
        intro _ hw'
        obtain ⟨⟨dq, osq⟩, hw''⟩ := hw'
        subst hw''
        have J9 := below_regrown wr dq osq
        generalize grow (redrawn wr dq) osq = w9 at J9 ⊢
        go_wp2_with fail
        go_roundw
        case rel => exact ⟨1, by omega, by simp, by rw [HX.out, ← e1.out], bw_trans hnx J9⟩
        case measure => simp [intOf]; omega
      · have e1 : Hid (X ++ ByteArray.mk #[71, 49] ++ ByteArray.mk #[32, 88] ++ ByteArray.mk (Lib.decDigits px.toNat).toArray ++ ByteArray.mk #[32, 89] ++ ByteArray.mk (Lib.decDigits py.toNat).toArray ++ ByteArray.mk #[10] = nx) := by
          have h := HST.out
          unfold cwL at h
          rw [if_neg (by omega)] at h
          exact h
        have k0 : ((k : Int) == 0) = false := by simp; omega
        clear HST
        go_wp2_with fail
        refine wp_region_quiet_below (by kernel_rfl) (by kernel_rfl) ?_
        repeat (first | go_big_quiet_step (first | (go_at_call 60; with_reducible exact Calls.regrown_of (C1.out _ _)) | (go_at_call 60; with_reducible exact Calls.regrown_of (C2.out _ _))))
        refine wpQuiet_nil ?_
        intro _ hw'
        obtain ⟨⟨dq, osq⟩, hw''⟩ := hw'
        subst hw''
        have J9 := below_regrown wr dq osq
        generalize grow (redrawn wr dq) osq = w9 at J9 ⊢
        go_wp2_with fail
        go_roundw
        case rel => exact ⟨k + 1, by omega, by simp, by rw [HX.out, ← e1.out], bw_trans hnx J9⟩
        case measure => simp [intOf]; omega
theorem turnsV_ok' (l : List P2) (h : pathP l = false) : cdV l = ⟨#[]⟩ := by unfold cdV; rw [h]; rfl
theorem sCodeWrite_any (a : Option Addr) (np cp : Nat) (l : List P2) (w : World) (hn : np ≤ 1048576) (hP : Pts w.heap.size w a np l) :
    Calls Tryd.prog 12 #[.slice a np cp] w fun e W' => e = .returned (.string (cdV l)) ∧ Below w.heap.size w W' := by
  have h1 := sPath_any a np cp l w hn hP
  cases hp : pathP l
  · have E : Hid (cdV l = ⟨#[]⟩) := turnsV_ok' l hp
    rw [hp] at h1
    go_enter Tryd.func12, Tryd.ntmps12
    go_wp2_with fail
    refine h1.mono ?_
    rintro e w1 ⟨rfl, J1⟩
    go_wp2_with fail
    go_ret
    exact ⟨by rw [E.out]; rfl, J1⟩
  · have E : Hid (cdV l = cdB (turnsL l)) := by change _ = _; unfold cdV; rw [hp]; rfl
    rw [hp] at h1
    go_enter Tryd.func12, Tryd.ntmps12
    go_wp2_with fail
    refine h1.mono ?_
    rintro e w1 ⟨rfl, J1⟩
    go_wp2_with fail
    refine (sWrite_ok a np cp l w1 ((hP.below J1).grow J1.size) hp).mono ?_
    rintro e w2 ⟨rfl, J2⟩
    go_wp2_with fail
    go_ret
    exact ⟨by rw [E.out]; rfl, bw_trans J1 J2⟩
end Go.Proofs.YtfdnadiliedikaaDoor
namespace Go.Proofs.YtfdnadiliedikaaDoor
open Go.RowKit Go.Sort

set_option maxRecDepth 100000 in
set_option maxHeartbeats 4000000 in
theorem drawCodeWrite_any {a : Option Addr} {len0 cap : Nat} {zs : List Int} (w0 w : World) (h : IsRow .u8 w0 a len0 cap zs) (hb : Below w0.heap.size w0 w) :
    Calls Tryd.prog 10 #[.slice a len0 cap] w (DrawnC 0 20 w) := by
  go_enter Tryd.func10, Tryd.ntmps10
  go_wp2_with fail
  refine (open_rd w0 _ h hb).mono ?_
  rintro e w1 ⟨len, rfl, R, hb1⟩
  have z1 := hb1.size
  have zr := R.lt
  go_wp2_with fail
  refine (l72Path_any 0 a len cap _ _ (by omega) R).mono ?_
  rintro e w2 ⟨g, c, l, rfl, hl, hPB, hlc, hb2, O⟩
  go_wp2_with fail
  go_ret
  exact ⟨g, c, l, rfl, Nat.zero_le _, hl, hPB, hlc, hb2, hb1.trans (O.below' (B := w.heap.size) (Nat.le_refl _) (by omega))⟩
theorem ba_ne2 {a b : ByteArray} (h : a ≠ b) : (a.toList == b.toList) = false := by
  rw [Bool.eq_false_iff]
  intro e
  apply h
  have e' : a.toList = b.toList := by simpa using e
  rw [Lib.toList_data, Lib.toList_data] at e'
  apply ByteArray.ext
  exact Array.toList_inj.1 e'
theorem cdV_none {l : List P2} (h : pathP l = false) : cdV l = ⟨#[]⟩ := by unfold cdV; rw [h]; rfl
theorem cdV_inj {l m : List P2} (hl : pathP l = true) (hm : pathP m = true) (h : cdV l = cdV m) : l = m := by
  unfold cdV at h
  rw [hl, hm, if_pos rfl, if_pos rfl] at h
  have := congrArg (fun b => b.data.toList) h
  unfold cdB at this
  exact cdL_one hl hm (by simpa using this)
theorem text_some {s : ByteArray} (h : 2 ≤ s.size) : s.toList.isEmpty = false := by
  rw [Lib.toList_data]
  have e0 : s.data.toList.length = s.size := Array.length_toList
  cases hc : s.data.toList with
  | nil => rw [hc] at e0; simp at e0; omega
  | cons _ _ => rfl
set_option maxRecDepth 100000 in
set_option maxHeartbeats 4000000 in
theorem codeOne_walk (w : World) (a0 : Option Addr) (len0 cap0 : Nat) (z0 : List Int) (r0 : IsRow .u8 w a0 len0 cap0 z0) (a1 : Option Addr) (len1 cap1 : Nat) (z1 : List Int) (r1 : IsRow .u8 w a1 len1 cap1 z1) (hT : Tab w) :
    Calls Tryd.prog 5 #[.slice a0 len0 cap0, .slice a1 len1 cap1] w fun e w' => e = .returned (.bool true) ∧ Below w.heap.size w w' := by
  by_cases hl0 : (1048576 : Int) < (len0 : Int)
  · go_enter Tryd.func5, Tryd.ntmps5
    go_wp2_with fail
    go_ret
    exact ⟨rfl, bw_refl _⟩
  by_cases hl1 : (1048576 : Int) < (len1 : Int)
  · go_enter Tryd.func5, Tryd.ntmps5
    go_wp2_with fail
    go_ret
    exact ⟨rfl, bw_refl _⟩
  go_enter Tryd.func5, Tryd.ntmps5
  go_wp2_with fail
  refine (drawCodeWrite_any w _ r0 (bw_refl _)).mono ?_
  rintro e w1 ⟨g, c, l, rfl, _, hl20, _, hlc, hb, J1⟩
  have hP1 := hb.pts' rfl
  obtain ⟨n, hn⟩ : ∃ n, n = l.length := ⟨_, rfl⟩
  rw [← hn] at hP1 hl20 hlc
  rw [← hn]
  clear hb hn
  go_wp2_with fail
  refine (drawTurns_any w _ r1 J1).mono ?_
  rintro e w2 ⟨g2, c2, l2, rfl, _, hl202, _, hlc2, hb2, J2⟩
  have hP2 := hb2.pts' rfl
  obtain ⟨n2, hn2⟩ : ∃ n2, n2 = l2.length := ⟨_, rfl⟩
  rw [← hn2] at hP2 hl202 hlc2
  rw [← hn2]
  clear hb2 hn2
  have K2 := bw_trans J1 J2
  have hP12 := (hP1.below J2).grow J2.size
  have hT2 := hT.below K2
  have hWa := fun V (J : Below w2.heap.size w2 V) => codeWrite_any (some ⟨g, 0, none⟩) n c l V (by omega) hlc ((hP12.below J).grow J.size) (hT2.below J)
  have hWb := fun V (J : Below w2.heap.size w2 V) => codeWrite_any (some ⟨g2, 0, none⟩) n2 c2 l2 V (by omega) hlc2 ((hP2.below J).grow J.size) (hT2.below J)
  have hSa := fun V (J : Below w2.heap.size w2 V) => sCodeWrite_any (some ⟨g, 0, none⟩) n c l V (by omega) ((hP12.below J).grow J.size)
  have hSm := fun V (J : Below w2.heap.size w2 V) => luSame_any (some ⟨g, 0, none⟩) (some ⟨g2, 0, none⟩) n n2 c c2 l l2 V ((hP12.below J).grow J.size) ((hP2.below J).grow J.size) (by omega)
  cases hpa : pathP l with
  | false =>
    rw [cdV_none hpa] at hWa hSa
    generalize cdV l2 = t at hWb
    go_wp2_with fail
    refine (hWa _ (bw_refl _)).mono ?_
    rintro e w3 ⟨rfl, J3⟩
    go_wp2_with fail
    refine (hWb _ J3).mono ?_
    rintro e w4 ⟨rfl, J4⟩
    have J34 := bw_trans J3 J4
    go_wp2_with fail
    refine (hSa _ J34).mono ?_
    rintro e w5 ⟨rfl, J5⟩
    have J35 := bw_trans J34 J5
    go_wp2_with fail
    refine (hSa _ J35).mono ?_
    rintro e w6 ⟨rfl, J6⟩
    go_wp2_with fail
    go_ret
    exact ⟨rfl, bw_trans K2 (bw_trans J35 J6)⟩
  | true =>
  obtain ⟨hs2, hse⟩ := path_text hpa
  have hsn := text_some hs2
  cases hpb : pathP l2 with
  | false =>
    rw [cdV_none hpb] at hWb
    generalize cdV l = s at *
    go_wp2_with fail
    refine (hWa _ (bw_refl _)).mono ?_
    rintro e w3 ⟨rfl, J3⟩
    go_wp2_with fail
    refine (hWb _ J3).mono ?_
    rintro e w4 ⟨rfl, J4⟩
    have J34 := bw_trans J3 J4
    go_wp2_with fail
    refine (hSa _ J34).mono ?_
    rintro e w5 ⟨rfl, J5⟩
    have J35 := bw_trans J34 J5
    go_wp2_with fail
    refine (hSa _ J35).mono ?_
    rintro e w6 ⟨rfl, J6⟩
    go_wp2_with fail
    go_ret
    exact ⟨rfl, bw_trans K2 (bw_trans J35 J6)⟩
  | true =>
  obtain ⟨ht2, hte⟩ := path_text hpb
  have htn := text_some ht2
  have heq : (decide (cdV l = cdV l2)) = decide (l = l2) := by
    by_cases e : l = l2
    · subst e; simp
    · rw [decide_eq_false e, decide_eq_false (fun h => e (cdV_inj hpa hpb h))]
  generalize cdV l = s at *
  generalize cdV l2 = t at *
  generalize decide (l = l2) = q at *
  have i2 : (2 : Int) ≤ (s.size : Int) := by omega
  have i3 : (2 : Int) ≤ (t.size : Int) := by omega
  by_cases est : s = t
  case pos =>
    subst est
    have hq : q = true := by rw [← heq]; simp
    subst hq
    clear heq
    go_wp2_with fail
    refine (hWa _ (bw_refl _)).mono ?_
    rintro e w3 ⟨rfl, J3⟩
    go_wp2_with fail
    refine (hWb _ J3).mono ?_
    rintro e w4 ⟨rfl, J4⟩
    have J34 := bw_trans J3 J4
    go_wp2_with fail
    refine (hSa _ J34).mono ?_
    rintro e w5 ⟨rfl, J5⟩
    have J35 := bw_trans J34 J5
    go_wp2_with fail
    refine (hSm _ J35).mono ?_
    rintro e w6 ⟨rfl, J6⟩
    go_wp2_with fail
    go_ret
    exact ⟨rfl, bw_trans K2 (bw_trans J35 J6)⟩
  case neg =>
    have hq : q = false := by rw [← heq]; exact decide_eq_false est
    subst hq
    have hst := ba_ne2 est
    clear heq
    go_wp2_with fail
    refine (hWa _ (bw_refl _)).mono ?_
    rintro e w3 ⟨rfl, J3⟩
    go_wp2_with fail
    refine (hWb _ J3).mono ?_
    rintro e w4 ⟨rfl, J4⟩
    have J34 := bw_trans J3 J4
    go_wp2_with fail
    refine (hSa _ J34).mono ?_
    rintro e w5 ⟨rfl, J5⟩
    have J35 := bw_trans J34 J5
    go_wp2_with fail
    refine (hSm _ J35).mono ?_
    rintro e w6 ⟨rfl, J6⟩
    go_wp2_with fail
    go_ret
    exact ⟨rfl, bw_trans K2 (bw_trans J35 J6)⟩
end Go.Proofs.YtfdnadiliedikaaDoor
namespace Go.Proofs.YtfdnadiliedikaaDoor
open Go.ChangeShapes Go.WideShapes Go.ChangeAt Go.RowKit

theorem own : ownKnob Tryd.prog.godebug = none := by kernel_rfl
theorem laidOut : laidOutB Tryd.prog = true := by kernel_rfl
/-- The list. -/
def listTab : List (String × DataW Unit) := [("math/bits.deBruijn32tab", Rows.laid_math_bits_deBruijn32tab), ("math/bits.deBruijn64tab", Rows.laid_math_bits_deBruijn64tab), ("internal/strconv.uint64pow10", Rows.laid_internal_strconv_uint64pow10)]
theorem gPType : (Tryd.prog.globals[1]?).map (·.type) = some 107 := by kernel_rfl
theorem cellsU64 : Tryd.prog.cellsOf 99 = 1 := by kernel_rfl
theorem cellsTab : Tryd.prog.cellsOf 107 = 20 := by kernel_rfl
theorem tabSame : Rows.laid_internal_strconv_uint64pow10 (H := Unit) = Lib.tabData .u64 Lib.pow10Tab := by kernel_rfl
theorem tab_of_laid {W : World} (h : laidMetH Tryd.prog listTab W) : Tab W := by
  rw [MakeChecks.laidMetH_plain _ _ _ (by kernel_rfl)] at h
  have h3 : laidMet Tryd.prog [("internal/strconv.uint64pow10", Rows.laid_internal_strconv_uint64pow10)] W := (laidMet.tail (laidMet.tail h))
  rw [tabSame] at h3
  exact Lib.tabIs_of_head gP gPType Tryd.underlying107 Tryd.underlying99 cellsU64 cellsTab h3
/-- The door's own heap meets the condition. -/
theorem door_met_tab (os : Os) (args : Array Value) : laidMetH Tryd.prog listTab ((World.doorLaid Tryd.prog 62 os).forCall (fun _ _ => 0) ⟨#[], args, []⟩).memory :=
  laidMetH_of_parts3 (fuel := 8) (laidMet_of_run' 8 (by kernel_rfl) (by kernel_rfl)) (by kernel_rfl) (by kernel_rfl)
end Go.Proofs.YtfdnadiliedikaaDoor
namespace Go.Proofs.YtfdnadiliedikaaDoor
open Go.ChangeShapes Go.WideShapes Go.ChangeAt Go.RowKit Go.Joins
open Go.ChangeMaps (open_string shut_string)

set_option maxRecDepth 100000 in
theorem fnCodeOne_lifted (os : Os) (started : os.Started) (H : Type) (enc : TypeId × Value → H) :
    ReturnsInHanded {} Tryd.checked os 5 .any (fun w args => (Rows.fnCodeOneSpec.pre enc Tryd.prog Tryd.f5 [] false w args ∧ laidMetH Tryd.prog Rows.fnCodeOneRow.laid w) ∧ sizedMet enc Tryd.prog Tryd.f5 (OpenSpec.ofChange Rows.fnCodeOneSpec) false w args)
      (Rows.fnCodeOneSpec.post enc Tryd.prog Tryd.f5 false true false false) := by
  refine returnsInHanded_of_change_and (C := Tryd.checked) (X := fun w _ => laidMetH Tryd.prog Rows.fnCodeOneRow.laid w) (fun _ _ _ hh h => h.of_heap hh) own started (by kernel_rfl) Tryd.func5
    (ChangeSpec.witness_shaped (enc := enc) (C := Tryd.checked) (os := os) (X := fun w _ => laidMetH Tryd.prog Rows.fnCodeOneRow.laid w) false (World.doorLaid Tryd.prog 62 os) #[.slice none 0 0, .slice none 0 0] 8 rfl (World.shaped_of_RefB (by kernel_rfl) (by kernel_rfl)) (by kernel_rfl) (by kernel_rfl) (by kernel_rfl) (door_met_tab os _)) ?_
  intro W base args ds gs before hval0 hW _ _ hL _
  have hval : ∀ (j : Nat) t v, Tryd.f5.params[j]? = some t → args[j]? = some v → Value.okWide Tryd.prog W .any base t v := hval0
  have hW' := hW
  obtain ⟨p, q, hA0, hV, rfl, hfz, hnd⟩ := hW
  have hA : DataW.TrodAll enc Tryd.prog W 0 (fun _ => true) true Tryd.f5.params.toList args.toList ds p := hA0
  rw [Tryd.params5] at hA hval
  obtain ⟨v0, vs0, d0, ds0, p0, q0, hargs, rfl, rfl, h0, r0⟩ := trodAll_cons hA
  obtain ⟨v1, vs1, d1, ds1, p1, q1, rfl, rfl, rfl, h1, r1⟩ := trodAll_cons r0
  obtain ⟨rfl, rfl, rfl⟩ := trodAll_nil r1
  obtain rfl : args = #[v0, v1] := by cases args; simp_all
  obtain ⟨rfl, rfl⟩ := trodVars_none hV
  have htab := tab_of_laid hL
  have k0 := h0
  have lt0 : ∀ x ∈ p0, x.block < W.heap.size := by obtain ⟨m, hm⟩ := k0; exact DataW.trod_lt m _ _ _ hm
  obtain ⟨a0, len0, cap0, rfl⟩ := okWide_slice Tryd.underlying22 (hval 0 22 v0 rfl rfl)
  obtain ⟨z0, w0⟩ : ∃ zs, IsRow .u8 W a0 len0 cap0 zs := by
    obtain ⟨fuel, hf⟩ := h0
    rcases open_ints Tryd.underlying22 Tryd.underlying5 (by kernel_rfl) hf with ⟨hcs, _⟩ | ⟨x, l, c, zs, hcs, _, hl, hm, hz, _, hcell, hwz⟩
    · simp [Value.cells] at hcs
      obtain ⟨rfl, rfl, rfl⟩ := hcs
      exact ⟨[], .inl ⟨rfl, rfl, rfl, rfl⟩⟩
    · simp [Value.cells] at hcs
      obtain ⟨rfl, rfl, rfl⟩ := hcs
      exact ⟨zs, .inr ⟨_, rfl, hl, hm, by simpa using hz, hcell, hwz⟩⟩
  have k1 := h1
  have lt1 : ∀ x ∈ p1, x.block < W.heap.size := by obtain ⟨m, hm⟩ := k1; exact DataW.trod_lt m _ _ _ hm
  obtain ⟨a1, len1, cap1, rfl⟩ := okWide_slice Tryd.underlying22 (hval 1 22 v1 rfl rfl)
  obtain ⟨z1, w1⟩ : ∃ zs, IsRow .u8 W a1 len1 cap1 zs := by
    obtain ⟨fuel, hf⟩ := h1
    rcases open_ints Tryd.underlying22 Tryd.underlying5 (by kernel_rfl) hf with ⟨hcs, _⟩ | ⟨x, l, c, zs, hcs, _, hl, hm, hz, _, hcell, hwz⟩
    · simp [Value.cells] at hcs
      obtain ⟨rfl, rfl, rfl⟩ := hcs
      exact ⟨[], .inl ⟨rfl, rfl, rfl, rfl⟩⟩
    · simp [Value.cells] at hcs
      obtain ⟨rfl, rfl, rfl⟩ := hcs
      exact ⟨zs, .inr ⟨_, rfl, hl, hm, by simpa using hz, hcell, hwz⟩⟩
  clear hA0 hval0
  refine (codeOne_walk W a0 len0 cap0 z0 w0 a1 len1 cap1 z1 w1 htab).mono fun e W' ⟨he, bel⟩ => ?_
  subst he
  exact ⟨_, rfl, _, _, _, [], _, [], hW', trodAll_mk1 (shut_bool Tryd.underlying4 _), (trodAll_cons_mk (Below.trod laidOut (by kernel_rfl) (of_decide_eq_true (by kernel_rfl)) k0 bel lt0) (trodAll_cons_mk (Below.trod laidOut (by kernel_rfl) (of_decide_eq_true (by kernel_rfl)) k1 bel lt1) trodAll_mk0)), rfl, bel.frame _, fun h => by cases h⟩

theorem fnCodeOne_said : Rows.FnCodeOneSaid :=
  OpenClaim.holds_of_wide 5 Tryd.f5 rfl rfl rfl rfl rfl rfl rfl ⟨rfl, rfl, rfl, rfl, rfl⟩ rfl rfl rfl rfl rfl (by kernel_rfl) Tryd.func5 (by kernel_rfl)
    (of_decide_eq_true (by kernel_rfl)) (by unfold Func.isWrapper; first | (rw [if_pos (by decide +kernel)]; kernel_rfl) | (rw [if_neg (by decide +kernel)]; exact ⟨rfl, rfl⟩))
    (fun os started H enc _ => fnCodeOne_lifted os started H enc)

theorem fnCodeOne_plain (f : FuncId) (fn : Func) (hf : Tryd.pinned.checked.prog.funcNamed "loop.example/mortiser/laws.FnCodeOne" = some f) (hfn : Tryd.pinned.checked.prog.funcs[f]? = some fn) :
    true = Tryd.pinned.checked.prog.looks [] ∧ ∀ (j : Nat) t, fn.params[j]? = some t → Tryd.pinned.checked.prog.wantsStandIn t = false := by
  obtain rfl : f = 5 := Option.some.inj ((show Tryd.prog.funcNamed "loop.example/mortiser/laws.FnCodeOne" = some 5 by kernel_rfl).symm.trans hf) |>.symm
  obtain rfl : fn = Tryd.f5 := (Option.some.inj (Tryd.func5.symm.trans hfn)).symm
  refine ⟨by kernel_rfl, fun j t ht => ?_⟩
  rw [Tryd.params5] at ht
  have hm := Array.mem_of_getElem? ht
  simp only [List.mem_toArray, List.mem_cons, List.not_mem_nil, or_false] at hm
  rcases hm with rfl | rfl
  · exact (show Tryd.prog.wantsStandIn 22 = false by kernel_rfl)
  · exact (show Tryd.prog.wantsStandIn 22 = false by kernel_rfl)

/-- THE STATEMENT. -/
theorem fnCodeOne_card : Rows.FnCodeOneCardSaid :=
  Claim7.holds_tied_plain_at .later [] _ _ _ _ fnCodeOne_said (fun _ h => by cases h) (by kernel_rfl) (fun _ h => by cases h) fnCodeOne_row_tie rfl ⟨rfl, rfl⟩ (by kernel_rfl) rfl fnCodeOne_plain (by kernel_rfl)
end Go.Proofs.YtfdnadiliedikaaDoor
