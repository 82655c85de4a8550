/-
  OUR OWN TEXT. The law FnExactCodeRead, for every input: the call returns true, and each argument reads as it did. Texts of ours, joined, so that the claim keeps to its number of files. Conditions: none but the row's own.
-/
import Derived.Conc.LoneCalls
import Derived.RowKit
import Derived.WalkKit
import Derived.Test.YtfdnadiliedikaaDoorCodeTxM
import Derived.Test.YtfdnadiliedikaaDoorItoa
import Derived.Test.YtfdnadiliedikaaDoorBoxes
import Derived.Conc.SmallLaws
import Derived.Conc.EventLaws
import Derived.Test.YtfdnadiliedikaaDoorCodeRdM
import Derived.Test.YtfdnadiliedikaaDoorShelfB
import Derived.Test.YtfdnadiliedikaaDoorAnyZ
import Derived.Shelf.SlIter.Collect
import Derived.RangeFuncNested
import Derived.RangeFuncBox
import Derived.RangeFuncBound
import Derived.RangeFuncCalls
import Derived.RangeFuncLeaves
import Derived.Shelf.Abstract
import Derived.Shelf.RegionOpen
import Derived.OwnWalkIn
import Derived.TacticsInMore
import Derived.LoopNIn
import Derived.LoopIn
import Derived.Deep.RegionHeld3
import Derived.Test.YtfdnadiliedikaaDoorCodeM3
import Derived.Test.YtfdnadiliedikaaDoorMarkP
import Derived.Test.YtfdnadiliedikaaDoorTurn
import Derived.Test.YtfdnadiliedikaaDoorCells
import Derived.Test.YtfdnadiliedikaaDoorSCodeU
import Derived.Deep.AppendLies
import Derived.Deep.DrawnRows
import Derived.Test.YtfdnadiliedikaaDoorLuL
import Derived.OwnWalk
import Derived.Shelf.Strings.MapGrows
import Derived.Test.YtfdnadiliedikaaDoorSCut
import Derived.Test.YtfdnadiliedikaaDoorSCodeS
import Derived.Test.YtfdnadiliedikaaDoorToPts
import Derived.Test.YtfdnadiliedikaaDoorCards
import Derived.Test.YtfdnadiliedikaaDoorTie
import Derived.ProofKit
import Derived.OpenShut
import Derived.ShutString
import Derived.ChangeOld
import Derived.Below
import Derived.LaidMore
import Derived.MakeChecks
import Derived.Stop.Joined
import Derived.Stop.LaidErr
import Derived.Lib.LaidTab
import Derived.Test.YtfdnadiliedikaaDoorPlcRead
import Derived.Shelf.Vars
import Derived.HandedShaped
import Derived.Lay
import Derived.Lib.SmallJoins
namespace Go.Proofs.YtfdnadiliedikaaDoor
open Go.Conc Go.RowKit

section
variable {P : Program} {Q : Exit → Act → World → Prop} {a : Act} {w : World}
/-- From this code on, in a frame of an ordinary call, the walk comes to an exit of which Q holds. -/
def wpN (P : Program) (c : Code) (Q : Exit → Act → World → Prop) (a : Act) (w : World) : Prop :=
  ∀ (b : Frame), b.kind = .normal → ∀ (k : List Item) (cs : List Frame), ∃ e a' w', Q e a' w' ∧ Arrives P (lone (b.at a (.code c :: k)) cs w) b k cs e a' w'
theorem wpN_of {c : Code} (h : c.wp P Q a w) : wpN P c Q a w := fun b _ k cs => h b k cs
theorem wpN_seq {x y : Code} (h : wpN P x (Exit.then (wpN P y Q) Q) a w) : wpN P (Code.seq x y) Q a w := by
  intro b hb k cs
  obtain ⟨e, a₁, w₁, hq, harr⟩ := h b hb (.code y :: k) cs
  have keep : ∀ e', e' ≠ .normal → Q e' a₁ w₁ → Arrives P (lone (b.at a (.code x :: .code y :: k)) cs w) b (.code y :: k) cs e' a₁ w₁ → ∃ e a' w', Q e a' w' ∧ Arrives P (lone (b.at a (.code (Code.seq x y) :: k)) cs w) b k cs e a' w' :=
    fun e' he q r => ⟨e', a₁, w₁, q, .of_steps (.one step_seq) (.pass (x := .code y) rfl (fun _ _ => .inl he) r)⟩
  by_cases he : e = .normal
  · subst he
    obtain ⟨e₂, a₂, w₂, hq₂, harr₂⟩ := hq b hb k cs
    exact ⟨e₂, a₂, w₂, hq₂, .of_steps (.head step_seq harr) harr₂⟩
  · refine keep e he ?_ harr
    cases e <;> first | exact absurd rfl he | exact hq
theorem wpN_block {id : Nat} {c : Code} (h : wpN P c (Exit.inBlock id Q) a w) : wpN P (Code.block id c) Q a w := by
  intro b hb k cs
  obtain ⟨e, a₁, w₁, hq, harr⟩ := h b hb (.inBlock id :: k) cs
  cases e with
  | normal => exact ⟨.normal, a₁, w₁, hq, .head step_block (Steps.trans harr (.one step_inBlock))⟩
  | exit id' =>
    by_cases hid : id' = id
    · subst hid
      have hq' : Q .normal a₁ w₁ := by simpa [Exit.inBlock] using hq
      exact ⟨.normal, a₁, w₁, hq', .head step_block (harr k (by simp [exitTo]))⟩
    · have hq' : Q (.exit id') a₁ w₁ := by simpa [Exit.inBlock, hid] using hq
      refine ⟨.exit id', a₁, w₁, hq', fun k' hk => .head step_block (harr k' ?_)⟩
      have hne : (id == id') = false := by simpa using fun h => hid h.symm
      simp [exitTo, hne, hk]
  | goto l => exact ⟨.goto l, a₁, w₁, hq, fun k' hk => .head step_block (harr k' (by simp [gotoIn, hk]))⟩
  | ret => exact ⟨.ret, a₁, w₁, hq, .of_steps (.one step_block) harr⟩
  | panic ch => exact ⟨.panic ch, a₁, w₁, hq, .of_steps (.one step_block) harr⟩
  | outgrown => exact ⟨.outgrown, a₁, w₁, hq, .of_steps (b := b) (k := k) (cs := cs) (e := .outgrown) (.one step_block) harr⟩
theorem wpN_loop {c : Code} (n : Nat) (I : Nat → Act → World → Prop) (h₀ : I n a w)
    (round : ∀ j a w, I (j + 1) a w → wpN P c (Exit.then (I j) Q) a w) (last : ∀ a w, I 0 a w → wpN P c (Exit.then (fun _ _ => False) Q) a w) : wpN P (Code.loop c) Q a w := by
  intro b hb k cs
  have out : ∀ (a₀ : Act) (w₀ : World) (e : Exit) (a₁ : Act) (w₁ : World), e ≠ .normal → Q e a₁ w₁ → Arrives P (lone (b.at a₀ (.code c :: .inLoop c :: k)) cs w₀) b (.inLoop c :: k) cs e a₁ w₁ →
      ∃ e a' w', Q e a' w' ∧ Arrives P (lone (b.at a₀ (.code c :: .inLoop c :: k)) cs w₀) b k cs e a' w' :=
    fun a₀ w₀ e a₁ w₁ he q r => ⟨e, a₁, w₁, q, .pass (x := .inLoop c) rfl (fun _ _ => .inl he) r⟩
  have key : ∀ n a w, I n a w → ∃ e a' w', Q e a' w' ∧ Arrives P (lone (b.at a (.code c :: .inLoop c :: k)) cs w) b k cs e a' w' := by
    intro n
    induction n with
    | zero =>
      intro a w hI
      obtain ⟨e, a₁, w₁, hq, harr⟩ := last a w hI b hb (.inLoop c :: k) cs
      by_cases he : e = .normal
      · subst he; exact hq.elim
      · refine out a w e a₁ w₁ he ?_ harr
        cases e <;> first | exact absurd rfl he | exact hq
    | succ n ih =>
      intro a w hI
      obtain ⟨e, a₁, w₁, hq, harr⟩ := round n a w hI b hb (.inLoop c :: k) cs
      by_cases he : e = .normal
      · subst he
        obtain ⟨e₂, a₂, w₂, hq₂, harr₂⟩ := ih a₁ w₁ hq
        exact ⟨e₂, a₂, w₂, hq₂, .of_steps (Steps.trans harr (.one step_inLoop)) harr₂⟩
      · refine out a w e a₁ w₁ he ?_ harr
        cases e <;> first | exact absurd rfl he | exact hq
  obtain ⟨e, a', w', hq, harr⟩ := key n a w h₀
  exact ⟨e, a', w', hq, .of_steps (.one step_loop) harr⟩
theorem calls_of_wpN {f : FuncId} {fn : Func} {c : Code} {args : Array Value} {R : Ending → World → Prop} (hf : P.funcs[f]? = some fn) (hb : fn.body = some c)
    (h : wpN P c (bodyPost P fn R) { tmps := args ++ Array.replicate (fn.ntmps - args.size) undef, defers := [] } w) : Calls P f args w R := by
  intro cs
  let b : Frame := { (default : Frame) with fn := f, kind := .normal }
  have henter : Frame.enter P f args .normal = b.at { tmps := args ++ Array.replicate (fn.ntmps - args.size) undef, defers := [] } [.code c] := by simp [Frame.enter, Frame.at, hf, hb, b]
  obtain ⟨e, a', w', hq, harr⟩ := h b rfl [] cs
  rw [← henter] at harr
  cases e with
  | normal =>
    obtain ⟨hd, v, hr, hR⟩ := hq
    exact ⟨.returned v, w', _, hR, Steps.trans harr (.one step_end), rfl, rfl, hd, rfl, fn, hf, hr⟩
  | ret =>
    obtain ⟨hd, v, hr, hR⟩ := hq
    obtain ⟨todo, hs⟩ := harr
    exact ⟨.returned v, w', _, hR, hs, rfl, rfl, hd, rfl, fn, hf, hr⟩
  | panic chain =>
    obtain ⟨hd, hR⟩ := hq
    obtain ⟨todo, hs⟩ := harr
    exact ⟨.panicked chain, w', _, hR, hs, rfl, rfl, hd, fn, hf⟩
  | exit id => exact hq.elim
  | goto l => exact hq.elim
  | outgrown => exact ⟨.outgrown, w', b, hq, harr.resolve_left (by simp [b]), rfl, trivial⟩
/-- The same of what is left of a region that is done in order. -/
def wpM (P : Program) (ops : Array Oper) (Q : Exit → Act → World → Prop) (l : List Nat) (a : Act) (w : World) : Prop :=
  ∀ (b : Frame), b.kind = .normal → ∀ (k : List Item) (cs : List Frame), ∃ e a' w', Q e a' w' ∧ Arrives P (lone (b.at a (.inRegion ops l :: k)) cs w) b k cs e a' w'
theorem wpN_region {id : Nat} {ops : Array Oper} (h : wpM P ops Q (List.range ops.size) a w) : wpN P (Code.region id ops false) Q a w :=
  fun b hb k cs => let ⟨e, a', w', q, r⟩ := h b hb k cs; ⟨e, a', w', q, .of_steps (.one step_region) r⟩
theorem wpM_of {ops : Array Oper} {l : List Nat} (h : wpOps P ops Q l a w) : wpM P ops Q l a w := fun b _ k cs => wp_ops l a w h b k cs
theorem wpM_done {ops : Array Oper} (h : Q .normal a w) : wpM P ops Q [] a w := fun _ _ _ _ => ⟨.normal, a, w, h, .one step_region_end⟩
theorem wpM_value {ops : Array Oper} {i : Nat} {rest : List Nat} {o : Oper} {v : Value} {w' : World} (ho : ops[i]? = some o) (hw : Region.wanted o (yielded ops a.tmps) = true)
    (hr : (execOp a.eval o).run P w = .ok (.value v) w') (h : wpM P ops Q rest (a.put o.dst v) w') : wpM P ops Q (i :: rest) a w := by
  intro b hb k cs
  obtain ⟨e, a', w'', hq, harr⟩ := h b hb k cs
  have hg := stepG_op (P := P) (b := b) (k := k) (cs := cs) (w := w) (rest := rest) ho hw
  have hfin : (b.at a (.inRegion ops (i :: rest) :: k)).finish v = b.at (a.put o.dst v) (.inRegion ops rest :: k) := by rw [Frame.finish_at, ho]; rfl
  refine ⟨e, a', w'', hq, .of_steps (.one (step_lone_go ?_)) harr⟩
  rw [hg, ← hfin]; simp [stepG.apply, hr]
variable {c cap s r : Nat} {buf : Array Value} {z z' v : Value} {tm closed : Bool}
theorem wpM_send {ops : Array Oper} {i : Nat} {rest : List Nat} {o : Oper} (ho : ops[i]? = some o) (hw : Region.wanted o (yielded ops a.tmps) = true)
    (hr : (execOp a.eval o).run P w = .ok (.comm #[scase c v z'] true .send) w) (hc : w.heap[c]? = some (.chan cap buf false s r tm)) (hroom : buf.size < cap)
    (h : wpM P ops Q rest (a.put o.dst undef) (w.setChan c cap (buf.push v) false (s + 1) r tm)) : wpM P ops Q (i :: rest) a w := by
  intro b hb k cs
  obtain ⟨e, a', w'', hq, harr⟩ := h b hb k cs
  have hst := step_lone_send_room (stepG_comm (b := b) (k := k) (cs := cs) (rest := rest) (main := true) ho hw (by rw [hb]; simp) hr) hc hroom
  rw [Frame.finish_at, ho] at hst
  exact ⟨e, a', w'', hq, .of_steps (.one hst) harr⟩
theorem wpM_recv {ops : Array Oper} {i : Nat} {rest : List Nat} {o : Oper} {ok : Bool} (ho : ops[i]? = some o) (hw : Region.wanted o (yielded ops a.tmps) = true)
    (hr : (execOp a.eval o).run P w = .ok (.comm #[rcase c z] true (.recv ok)) w) (hc : w.heap[c]? = some (.chan cap buf closed s r tm)) (hsome : 0 < buf.size)
    (h : wpM P ops Q rest (a.put o.dst (got ok (buf.getD 0 undef) true)) (w.setChan c cap (buf.extract 1 buf.size) closed s (r + 1) tm)) : wpM P ops Q (i :: rest) a w := by
  intro b hb k cs
  obtain ⟨e, a', w'', hq, harr⟩ := h b hb k cs
  have hst := step_lone_recv_buf ok (stepG_comm (b := b) (k := k) (cs := cs) (rest := rest) (main := true) ho hw (by rw [hb]; simp) hr) hc hsome
  rw [Frame.finish_at, ho] at hst
  exact ⟨e, a', w'', hq, .of_steps (.one hst) harr⟩
theorem wpM_shut {ops : Array Oper} {i : Nat} {rest : List Nat} {o : Oper} {ok : Bool} (ho : ops[i]? = some o) (hw : Region.wanted o (yielded ops a.tmps) = true)
    (hr : (execOp a.eval o).run P w = .ok (.comm #[rcase c z] true (.recv ok)) w) (hc : w.heap[c]? = some (.chan cap #[] true s r tm))
    (h : wpM P ops Q rest (a.put o.dst (got ok z false)) w) : wpM P ops Q (i :: rest) a w := by
  intro b hb k cs
  obtain ⟨e, a', w'', hq, harr⟩ := h b hb k cs
  have hst := step_lone_recv_shut ok (stepG_comm (b := b) (k := k) (cs := cs) (rest := rest) (main := true) ho hw (by rw [hb]; simp) hr) hc
  rw [Frame.finish_at, ho] at hst
  exact ⟨e, a', w'', hq, .of_steps (.one hst) harr⟩
end
end Go.Proofs.YtfdnadiliedikaaDoor
namespace Go.Proofs.YtfdnadiliedikaaDoor
open Go.RowKit Go.Sort Go.Conc

theorem word_any (k : Nat) (w : World) : Calls Tryd.prog 55 #[.int .i64 k] w fun e w' => e = .returned (.string ⟨(cwL k).toArray⟩) ∧ Below w.heap.size w w' := by
  by_cases h0 : k = 0
  · subst h0
    go_enter Tryd.func55, Tryd.ntmps55
    go_wp2_with fail
    go_ret
    exact ⟨rfl, bw_refl _⟩
  · have e1 : Hid (cwL k = [71, 49]) := by change _ = _; unfold cwL; rw [if_neg h0]
    have h0' : ((k : Int) == 0) = false := by simp; omega
    go_enter Tryd.func55, Tryd.ntmps55
    go_wp2_with fail
    go_ret
    exact ⟨by rw [e1.out]; rfl, bw_refl _⟩
theorem lnB_eq (k : Nat) (p : P2) : ByteArray.mk (cwL k).toArray ++ ByteArray.mk #[32, 88] ++ ByteArray.mk (Lib.decDigits p.1.toNat).toArray ++ ByteArray.mk #[32, 89] ++ ByteArray.mk (Lib.decDigits p.2.toNat).toArray ++ ByteArray.mk #[10] = lnB k p := by
  unfold lnB lnL
  apply ByteArray.ext
  simp
set_option maxRecDepth 100000 in
set_option maxHeartbeats 1000000 in
theorem codeLine_ok (k : Nat) (p : P2) (hp : okP p = true) (w : World) (hT : Tab w) :
    Calls Tryd.prog 30 #[.int .i64 k, .agg #[.int .i64 p.1, .int .i64 p.2]] w fun e w' => e = .returned (.string (lnB k p)) ∧ Below w.heap.size w w' := by
  obtain ⟨W, hW, BW, T⟩ : ∃ W, W = w.alloc (.cells #[.int .i64 p.1, .int .i64 p.2] 42) ∧ Below w.heap.size w W ∧ W.heap[w.heap.size]? = some (.cells #[.int .i64 p.1, .int .i64 p.2] 42) := ⟨_, rfl, (by repeat (first | exact bw_refl _ | assumption | apply bw_drewN | apply bw_drew | apply bw_alloc | refine bw_set ?_ (by simp) _)), heap_new _ _⟩
  obtain ⟨⟨a, b⟩, c, d⟩ := (okP_iff p).1 hp
  have e1 : Hid (ByteArray.mk (cwL k).toArray ++ ByteArray.mk #[32, 88] ++ ByteArray.mk (Lib.decDigits p.1.toNat).toArray ++ ByteArray.mk #[32, 89] ++ ByteArray.mk (Lib.decDigits p.2.toNat).toArray ++ ByteArray.mk #[10] = lnB k p) := lnB_eq k p
  have l0 : (ByteArray.mk (cwL k).toArray).size = 2 := by have := cwL_len k; unfold ByteArray.size; simpa using this
  have l1 := dec_len p.1 (by omega) (by omega)
  have l2 := dec_len p.2 (by omega) (by omega)
  have hTW := hT.below BW
  have C0 : Hid (∀ d' os, Calls Tryd.prog 55 #[.int .i64 k] (grow (redrawn W d') os) fun e w'' => e = .returned (.string ⟨(cwL k).toArray⟩) ∧ Below (grow (redrawn W d') os).heap.size (grow (redrawn W d') os) w'') := fun d' os => word_any k _
  have C1 : Hid (∀ d' os, Calls Tryd.prog 56 #[.int .i64 p.1] (grow (redrawn W d') os) fun e w'' => e = .returned (.string ⟨(Lib.decDigits p.1.toNat).toArray⟩) ∧ Below (grow (redrawn W d') os).heap.size (grow (redrawn W d') os) w'') := fun d' os => itoa_any p.1 _ (by omega) (by omega) (hTW.below (below_regrown W d' os))
  have C2 : Hid (∀ d' os, Calls Tryd.prog 56 #[.int .i64 p.2] (grow (redrawn W d') os) fun e w'' => e = .returned (.string ⟨(Lib.decDigits p.2.toNat).toArray⟩) ∧ Below (grow (redrawn W d') os).heap.size (grow (redrawn W d') os) w'') := fun d' os => itoa_any p.2 _ (by omega) (by omega) (hTW.below (below_regrown W d' os))
  obtain ⟨t0, t1⟩ := reg_2 T
  obtain ⟨px, py⟩ := p
  dsimp only at *
  clear hp a b c d
  generalize cwL k = cw at *
  go_enter Tryd.func30, Tryd.ntmps30
  go_upto_region 1 with fail
  rw [← hW]
  clear hW
  refine wp_region_quiet_below (by kernel_rfl) (by kernel_rfl) ?_
  repeat (first | go_big_quiet_step (first | (go_at_call 55; with_reducible exact Calls.regrown_of (C0.out _ _)) | (go_at_call 56; with_reducible exact Calls.regrown_of (C1.out _ _)) | (go_at_call 56; with_reducible exact Calls.regrown_of (C2.out _ _))))
  refine wpQuiet_nil ?_
  intro _ hw'
  obtain ⟨⟨dq, osq⟩, hw''⟩ := hw'
  subst hw''
  have J := below_regrown W dq osq
  generalize grow (redrawn W dq) osq = v at J ⊢
  go_wp2_with fail
  go_ret
  exact ⟨ret_str e1.out, bw_trans BW J⟩
end Go.Proofs.YtfdnadiliedikaaDoor
namespace Go.Proofs.YtfdnadiliedikaaDoor
open Go.RowKit Go.Sort

theorem cut_spec (s sep : List UInt8) : ((Lib.cut s sep).2.2 = true ∧ s = (Lib.cut s sep).1 ++ sep ++ (Lib.cut s sep).2.1) ∨ ((Lib.cut s sep).2.2 = false ∧ (Lib.cut s sep).1 = s ∧ (Lib.cut s sep).2.1 = []) := by
  unfold Lib.cut
  rcases Lib.index_spec s sep with ⟨h1, _⟩ | ⟨i, h1, h2, h3, _⟩
  · rw [h1]; exact .inr ⟨rfl, rfl, rfl⟩
  · rw [h1]
    left
    unfold Lib.occAt at h3
    obtain ⟨t, ht⟩ := List.isPrefixOf_iff_prefix.1 h3
    refine ⟨rfl, ?_⟩
    simp only [if_pos (Int.natCast_nonneg i), Int.toNat_natCast]
    rw [← List.drop_drop, ← ht, List.drop_left, List.append_assoc, ht, List.take_append_drop]
/-- Whether a text ends with an end of line; and without it. -/
def nlB (q : List UInt8) : Bool := decide (q.getLast? = some 10)
def cutE (q : List UInt8) : List UInt8 := if nlB q = true then q.dropLast else q
def lineR (k : Nat) (y : List UInt8) : Option P2 :=
  if nlB (Lib.cut y [32, 88]).2.1 = true ∧ (Lib.cut y [32, 88]).1 = cwL k then placesP (Lib.cut (cutE (Lib.cut y [32, 88]).2.1) [32, 89]).1 (Lib.cut (cutE (Lib.cut y [32, 88]).2.1) [32, 89]).2.1 else none
theorem nlB_iff {q : List UInt8} (h : nlB q = true) : q = cutE q ++ [10] := by
  unfold cutE
  rw [if_pos h]
  have h' : q.getLast? = some 10 := of_decide_eq_true h
  obtain ⟨ys, e⟩ := List.getLast?_eq_some_iff.1 h'
  rw [e]; simp
theorem dgt_ne32 : ∀ k : Nat, k < 10 → UInt8.ofNat (48 + k) ≠ 32 := by decide
theorem cut_line (c0 c1 d e : UInt8) (h0 : c0 ≠ 32) (h1 : c1 ≠ 32) (hd : d ≠ 32) : Lib.cut [c0, c1, 32, 88, d, 32, 89, e, 10] [32, 88] = ([c0, c1], [d, 32, 89, e, 10], true) ∧ Lib.cut [d, 32, 89, e] [32, 89] = ([d], [e], true) := by
  have g0 : (32 == c0) = false := by simpa using fun h => h0 h.symm
  have g1 : (32 == c1) = false := by simpa using fun h => h1 h.symm
  have gd : (32 == d) = false := by simpa using fun h => hd h.symm
  constructor <;> simp [Lib.cut, Lib.index, List.isPrefixOf, g0, g1, gd]
theorem lineR_eq (k : Nat) (y : List UInt8) : lineR k y = lineP k y := by
  have dir1 : ∀ p, lineR k y = some p → lineP k y = some p := fun p h => by
    unfold lineR at h
    split at h
    · rename_i hc
      obtain ⟨he, hw⟩ := hc
      rcases cut_spec y [32, 88] with ⟨_, hy⟩ | ⟨_, _, h2⟩
      · have hq := nlB_iff he
        rcases cut_spec (cutE (Lib.cut y [32, 88]).2.1) [32, 89] with ⟨_, hz⟩ | ⟨_, _, h3⟩
        · unfold placesP at h
          split at h
          · rename_i a b ha hb
            cases h
            obtain ⟨m, hm, rfl, ea⟩ := plcP_some ha
            obtain ⟨n, hn, rfl, eb⟩ := plcP_some hb
            rw [ea, eb] at hz
            have e : y = lnL k ((m : Int), (n : Int)) := by
              have hok : okP ((m : Int), (n : Int)) = true := by rw [okP_iff]; simp only; omega
              rw [lnL_9 hok]
              rw [hy, hw, hq, hz]
              simp
            rw [e]
            exact lineP_back (by rw [okP_iff]; simp only; omega)
          · cases h
        · rw [h3] at h
          rw [places_right _ _ rfl] at h
          cases h
      · rw [h2] at he
        cases he
    · cases h
  cases h1 : lineP k y with
  | some p =>
    obtain ⟨hok, rfl⟩ := lineP_only h1
    rw [lnL_9 hok]
    obtain ⟨⟨h0, h1'⟩, h2, h3⟩ := (okP_iff p).1 hok
    have key : ∀ c0 c1 : UInt8, c0 ≠ 32 → c1 ≠ 32 → cwL k = [c0, c1] → lineR k (cwL k ++ [32, 88, UInt8.ofNat (48 + p.1.toNat), 32, 89, UInt8.ofNat (48 + p.2.toNat), 10]) = some p := fun c0 c1 n0 n1 e => by
      obtain ⟨q1, q2⟩ := cut_line c0 c1 (UInt8.ofNat (48 + p.1.toNat)) (UInt8.ofNat (48 + p.2.toNat)) n0 n1 (dgt_ne32 _ (by omega))
      have e2 : cwL k ++ [32, 88, UInt8.ofNat (48 + p.1.toNat), 32, 89, UInt8.ofNat (48 + p.2.toNat), 10] = [c0, c1, 32, 88, UInt8.ofNat (48 + p.1.toNat), 32, 89, UInt8.ofNat (48 + p.2.toNat), 10] := by rw [e]; rfl
      rw [e2]
      unfold lineR
      rw [q1]
      have e3 : nlB [UInt8.ofNat (48 + p.1.toNat), 32, 89, UInt8.ofNat (48 + p.2.toNat), 10] = true := by simp [nlB]
      have e4 : cutE [UInt8.ofNat (48 + p.1.toNat), 32, 89, UInt8.ofNat (48 + p.2.toNat), 10] = [UInt8.ofNat (48 + p.1.toNat), 32, 89, UInt8.ofNat (48 + p.2.toNat)] := by unfold cutE; rw [if_pos e3]; rfl
      simp only [e4]
      rw [q2, if_pos ⟨e3, e.symm⟩]
      unfold placesP
      rw [plcP_dig (by omega), plcP_dig (by omega)]
      simp only [Option.some.injEq]
      exact Prod.ext (by simp only; omega) (by simp only; omega)
    by_cases hk : k = 0
    · exact key 71 48 (by decide) (by decide) (by unfold cwL; rw [if_pos hk])
    · exact key 71 49 (by decide) (by decide) (by unfold cwL; rw [if_neg hk])
  | none =>
    cases h2 : lineR k y with
    | none => rfl
    | some p => rw [dir1 p h2] at h1; cases h1
theorem nlB_len {q : List UInt8} (h : nlB q = true) : 1 ≤ q.length := by rw [nlB_iff h]; simp
theorem extract_list (z : List UInt8) (a b : Nat) : (ByteArray.mk z.toArray).extract a b = ⟨((z.take b).drop a).toArray⟩ := by
  apply ByteArray.ext
  apply Array.ext'
  simp [List.drop_take]
theorem drop_last {q : List UInt8} (h : 1 ≤ q.length) : q.drop (q.length - 1) = [q.getLast (List.ne_nil_of_length_pos h)] := by
  have h1 := List.dropLast_concat_getLast (List.ne_nil_of_length_pos h)
  generalize q.getLast (List.ne_nil_of_length_pos h) = x at *
  generalize q.dropLast = A at *
  subst h1
  have hl : (A ++ [x]).length - 1 = A.length := by simp
  rw [hl, List.drop_left]
set_option maxRecDepth 100000 in
set_option maxHeartbeats 1000000 in
theorem hasSuffix_any (q : List UInt8) (hq : q.length ≤ 1000000) (w : World) :
    Calls Tryd.prog 83 #[.string ⟨q.toArray⟩, .string ⟨#[10]⟩] w fun e w' => e = .returned (.bool (nlB q)) ∧ Below w.heap.size w w' := by
  have hsz : (ByteArray.mk q.toArray).size = q.length := by unfold ByteArray.size; simp
  by_cases h1 : 1 ≤ q.length
  case neg =>
    obtain rfl : q = [] := List.eq_nil_of_length_eq_zero (by omega)
    go_enter Tryd.func83, Tryd.ntmps83
    go_wp2_with fail
    go_ret
    exact ⟨rfl, bw_refl _⟩
  case pos =>
  have j0 : (1 : Int) ≤ (q.length : Int) := by omega
  have k1 : IntKind.i64.wrap ((q.length : Int) - 1) = ((q.length - 1 : Nat) : Int) := by rw [wrap_small (by omega) (by omega)]; omega
  have j1 : ((q.length - 1 : Nat) : Int) ≤ (q.length : Int) := by omega
  have hx : (ByteArray.mk q.toArray).extract (q.length - 1) q.length = ⟨#[q.getLast (List.ne_nil_of_length_pos h1)]⟩ := by
    rw [extract_list, List.take_of_length_le (Nat.le_refl _), drop_last h1]
  have hB : nlB q = decide (q.getLast (List.ne_nil_of_length_pos h1) = 10) := by
    unfold nlB
    rw [List.getLast?_eq_some_getLast (List.ne_nil_of_length_pos h1)]
    simp
  rw [hB]
  generalize q.getLast (List.ne_nil_of_length_pos h1) = c at *
  go_enter Tryd.func83, Tryd.ntmps83
  go_wp2_with fail
  have hcc : (c == 10) = decide (c = 10) := by by_cases e : c = 10 <;> simp [e]
  refine bodyPost_ret (v := .bool (c == 10)) (by simp [results, Tryd.results83, go_sem]) rfl ?_
  exact ⟨by rw [hcc], bw_refl _⟩
set_option maxRecDepth 100000 in
set_option maxHeartbeats 1000000 in
theorem cutSuffix_lite (q : List UInt8) (hq : q.length ≤ 1000000) (w : World) :
    Calls Tryd.prog 77 #[.string ⟨q.toArray⟩, .string ⟨#[10]⟩] w fun e w' => e = .returned (.tuple #[.string ⟨(cutE q).toArray⟩, .bool (nlB q)]) ∧ Below w.heap.size w w' := by
  have hS := hasSuffix_any q hq w
  cases h : nlB q with
  | false =>
    rw [h] at hS
    have e1 : Hid (cutE q = q) := by change _ = _; unfold cutE; rw [h]; rfl
    go_enter Tryd.func77, Tryd.ntmps77
    go_wp2_with fail
    refine hS.mono ?_
    rintro e w1 ⟨rfl, J⟩
    go_wp2_with fail
    go_ret2
    exact ⟨by rw [e1.out]; rfl, J⟩
  | true =>
    rw [h] at hS
    have h1 := nlB_len h
    have hsz : (ByteArray.mk q.toArray).size = q.length := by unfold ByteArray.size; simp
    have k1 : IntKind.i64.wrap ((q.length : Int) - 1) = ((q.length - 1 : Nat) : Int) := by rw [wrap_small (by omega) (by omega)]; omega
    have j1 : ((q.length - 1 : Nat) : Int) ≤ (q.length : Int) := by omega
    have hx : Hid ((ByteArray.mk q.toArray).extract 0 (q.length - 1) = ⟨(cutE q).toArray⟩) := by
      change _ = _
      rw [extract_list]
      unfold cutE
      rw [if_pos h, List.drop_zero, List.dropLast_eq_take]
    go_enter Tryd.func77, Tryd.ntmps77
    go_wp2_with fail
    refine hS.mono ?_
    rintro e w1 ⟨rfl, J⟩
    go_wp2_with fail
    refine bodyPost_ret (v := .tuple #[.string ((ByteArray.mk q.toArray).extract 0 (q.length - 1)), .bool true]) (by simp [results, Tryd.results77, go_sem]) rfl ?_
    exact ⟨by rw [hx.out], J⟩
theorem cutSuffix_any (q : List UInt8) (hq : q.length ≤ 1000000) (w : World) :
    Calls Tryd.prog 65 #[.string ⟨q.toArray⟩, .string ⟨#[10]⟩] w fun e w' => e = .returned (.tuple #[.string ⟨(cutE q).toArray⟩, .bool (nlB q)]) ∧ Below w.heap.size w w' := by
  go_enter Tryd.func65, Tryd.ntmps65
  go_wp2_with fail
  refine (cutSuffix_lite q hq w).mono ?_
  rintro e w1 ⟨rfl, J⟩
  go_wp2_with fail
  go_ret2
  exact ⟨rfl, J⟩
theorem cut_lens (y sep : List UInt8) : (Lib.cut y sep).1.length ≤ y.length ∧ (Lib.cut y sep).2.1.length ≤ y.length := by
  rcases cut_spec y sep with ⟨_, h⟩ | ⟨_, h1, h2⟩
  · have := congrArg List.length h
    simp only [List.length_append] at this
    omega
  · rw [h1, h2]; simp
theorem cutE_len (q : List UInt8) : (cutE q).length ≤ q.length := by unfold cutE; split <;> simp
set_option maxRecDepth 100000 in
set_option maxHeartbeats 2000000 in
theorem codeLineRead_any (k : Nat) (y : List UInt8) (hy : y.length ≤ 100000) (w : World) (hL : Lib4 w) :
    Calls Tryd.prog 38 #[.int .i64 k, .string ⟨y.toArray⟩] w fun e w' => e = .returned (.tuple #[.agg #[.int .i64 (ptV (lineP k y)).1, .int .i64 (ptV (lineP k y)).2], .bool (lineP k y).isSome]) ∧ Below w.heap.size w w' := by
  obtain ⟨W, hW, BW, T⟩ := boxes1 w (.cells #[.int .i64 0, .int .i64 0] 42)
  have hysz : (ByteArray.mk y.toArray).size = y.length := by unfold ByteArray.size; simp
  obtain ⟨l1, l2⟩ := cut_lens y [32, 88]
  have hR := lineR_eq k y
  unfold lineR at hR
  have hC1 : ∀ V, Lib4 V → Calls Tryd.prog 64 #[.string ⟨y.toArray⟩, .string ⟨#[32, 88]⟩] V fun e w' => e = .returned (.tuple #[.string ⟨(Lib.cut y [32, 88]).1.toArray⟩, .string ⟨(Lib.cut y [32, 88]).2.1.toArray⟩, .bool (Lib.cut y [32, 88]).2.2]) ∧ Below V.heap.size V w' := fun V hV => by
    obtain ⟨m, hm⟩ := hV.most
    refine (shelf_strings_Cut ⟨y.toArray⟩ ⟨#[32, 88]⟩ m V (by rw [hysz]; omega) hm).mono ?_
    rintro e w1 ⟨rfl, n, rfl⟩
    exact ⟨by simp, by apply bw_drewN; exact bw_refl _⟩
  generalize hc1 : Lib.cut y [32, 88] = c1 at *
  obtain ⟨wd, q, f1⟩ := c1
  dsimp only at hC1 hR l1 l2
  have l3 := cutE_len q
  have hE := fun V => cutSuffix_any q (by omega) V
  obtain ⟨l4, l5⟩ := cut_lens (cutE q) [32, 89]
  have hesz : (ByteArray.mk (cutE q).toArray).size = (cutE q).length := by unfold ByteArray.size; simp
  have hC2 : ∀ V, Lib4 V → Calls Tryd.prog 64 #[.string ⟨(cutE q).toArray⟩, .string ⟨#[32, 89]⟩] V fun e w' => e = .returned (.tuple #[.string ⟨(Lib.cut (cutE q) [32, 89]).1.toArray⟩, .string ⟨(Lib.cut (cutE q) [32, 89]).2.1.toArray⟩, .bool (Lib.cut (cutE q) [32, 89]).2.2]) ∧ Below V.heap.size V w' := fun V hV => by
    obtain ⟨m, hm⟩ := hV.most
    refine (shelf_strings_Cut ⟨(cutE q).toArray⟩ ⟨#[32, 89]⟩ m V (by rw [hesz]; omega) hm).mono ?_
    rintro e w1 ⟨rfl, n, rfl⟩
    exact ⟨by simp, by apply bw_drewN; exact bw_refl _⟩
  generalize hc2 : Lib.cut (cutE q) [32, 89] = c2 at *
  obtain ⟨ax, uy, f2⟩ := c2
  dsimp only at hC2 hR l4 l5
  have hasz : (ByteArray.mk ax.toArray).size = ax.length := by unfold ByteArray.size; simp
  have husz : (ByteArray.mk uy.toArray).size = uy.length := by unfold ByteArray.size; simp
  have hP : ∀ V, Lib4 V → Calls Tryd.prog 66 #[.string ⟨ax.toArray⟩, .string ⟨uy.toArray⟩] V fun e w' => e = .returned (.tuple #[.agg #[.int .i64 (ptV (placesP ax uy)).1, .int .i64 (ptV (placesP ax uy)).2], .bool (placesP ax uy).isSome]) ∧ Below V.heap.size V w' := fun V hV => by
    have := placesRead_any ⟨ax.toArray⟩ ⟨uy.toArray⟩ (by rw [hasz]; omega) (by rw [husz]; omega) V hV
    simpa using this
  have hLW := hL.below BW
  have hWd := fun V => word_any k V
  generalize cutE q = ce at *
  generalize nlB q = nb at *
  generalize placesP ax uy = o at *
  obtain ⟨pv, hpv⟩ : ∃ pv, ptV o = pv := ⟨_, rfl⟩
  have HPV : Hid (ptV o = pv) := hpv
  rw [hpv] at hP
  clear hpv
  obtain ⟨px, py⟩ := pv
  dsimp only at hP
  generalize lineP k y = res at *
  have HR : Hid _ := hR
  clear hc1 hc2 hR l1 l2 l3 l4 l5 hysz hesz hasz husz
  go_enter Tryd.func38, Tryd.ntmps38
  go_upto_region 1 with fail
  rw [← hW]
  clear hW
  go_wp2_with fail
  refine (hC1 _ hLW).mono ?_
  rintro e w1 ⟨rfl, J1⟩
  go_wp2_with fail
  refine (hE _).mono ?_
  rintro e w2 ⟨rfl, J2⟩
  have K2 := bw_trans J1 J2
  go_wp2_with fail
  refine (hC2 _ (hLW.below K2)).mono ?_
  rintro e w3 ⟨rfl, J3⟩
  have K3 := bw_trans K2 J3
  go_wp2_with fail
  refine (hP _ (hLW.below K3)).mono ?_
  rintro e w4 ⟨rfl, J4⟩
  have K4 := bw_trans K3 J4
  have T4 := keep K4 T
  have zT4 := blk_lt T4
  have K5 := bw_trans BW K4
  obtain ⟨V, hV, BV, T5b⟩ : ∃ V, V = w4.alloc (.cells #[.int .i64 px, .int .i64 py] 42) ∧ Below w4.heap.size w4 V ∧ V.heap[w4.heap.size]? = some (.cells #[.int .i64 px, .int .i64 py] 42) := ⟨_, rfl, (by repeat (first | exact bw_refl _ | assumption | apply bw_drewN | apply bw_drew | apply bw_alloc | refine bw_set ?_ (by simp) _)), heap_new _ _⟩
  have T5 := keep BV T4
  have K6 : Below w.heap.size w V := bw_trans K5 BV
  go_upto_region 5 with fail
  rw [← hV]
  clear hV
  cases o with
  | none =>
    have e1 : Hid (res = none) := by change _ = _; rw [← HR.out]; split <;> rfl
    clear HR
    obtain ⟨q0, q1, qf0, qf1⟩ := blk2 T5
    have Z3 := setB2 (u0 := .int .i64 0) (u1 := .int .i64 0) T5
    obtain ⟨v0, v1, _, _⟩ := blk2 Z3
    go_wp2_with fail
    refine bodyPost_ret (v := .tuple #[.agg #[.int .i64 0, .int .i64 0], .bool false]) (by simp [results, Tryd.results38, go_sem, v0, v1]) rfl ?_
    exact ⟨by rw [e1.out]; rfl, (K6.setCell (p := ⟨w.heap.size, 0, none⟩) (Nat.le_refl _) _).setCell (p := ⟨w.heap.size, 1, none⟩) (Nat.le_refl _) _⟩
  | some p =>
  obtain rfl : p = (px, py) := HPV.out
  cases nb with
  | false =>
    have e1 : Hid (res = none) := by change _ = _; rw [← HR.out, if_neg (by simp)]
    clear HR
    obtain ⟨q0, q1, qf0, qf1⟩ := blk2 T5
    have Z3 := setB2 (u0 := .int .i64 0) (u1 := .int .i64 0) T5
    obtain ⟨v0, v1, _, _⟩ := blk2 Z3
    go_wp2_with fail
    refine bodyPost_ret (v := .tuple #[.agg #[.int .i64 0, .int .i64 0], .bool false]) (by simp [results, Tryd.results38, go_sem, v0, v1]) rfl ?_
    exact ⟨by rw [e1.out]; rfl, (K6.setCell (p := ⟨w.heap.size, 0, none⟩) (Nat.le_refl _) _).setCell (p := ⟨w.heap.size, 1, none⟩) (Nat.le_refl _) _⟩
  | true =>
  by_cases hwd : wd = cwL k
  case neg =>
    have e1 : Hid (res = none) := by change _ = _; rw [← HR.out, if_neg (by simp [hwd])]
    clear HR
    have hne := ba_ne (a := ⟨wd.toArray⟩) (b := ⟨(cwL k).toArray⟩) (fun e => hwd (by have := congrArg (fun b => b.data.toList) e; simpa using this))
    have hne2 : (wd == cwL k) = false := by simpa using hwd
    generalize cwL k = cw at *
    go_wp2_with fail
    refine (hWd _).mono ?_
    rintro e w5 ⟨rfl, J5⟩
    replace T5 := keep J5 T5
    replace K6 := bw_trans K6 J5
    obtain ⟨q0, q1, qf0, qf1⟩ := blk2 T5
    have Z3 := setB2 (u0 := .int .i64 0) (u1 := .int .i64 0) T5
    obtain ⟨v0, v1, _, _⟩ := blk2 Z3
    go_wp2_with fail
    refine bodyPost_ret (v := .tuple #[.agg #[.int .i64 0, .int .i64 0], .bool false]) (by simp [results, Tryd.results38, go_sem, v0, v1]) rfl ?_
    exact ⟨by rw [e1.out]; rfl, (K6.setCell (p := ⟨w.heap.size, 0, none⟩) (Nat.le_refl _) _).setCell (p := ⟨w.heap.size, 1, none⟩) (Nat.le_refl _) _⟩
  case pos =>
    subst hwd
    have e1 : Hid (res = some (px, py)) := by change _ = _; rw [← HR.out, if_pos ⟨rfl, rfl⟩]
    clear HR
    generalize cwL k = cw at *
    go_wp2_with fail
    refine (hWd _).mono ?_
    rintro e w5 ⟨rfl, J5⟩
    replace T5 := keep J5 T5
    replace T5b := keep J5 T5b
    replace K6 := bw_trans K6 J5
    obtain ⟨q0, q1, qf0, qf1⟩ := blk2 T5
    obtain ⟨r0, r1, rf0, rf1⟩ := blk2 T5b
    have Z3 := setB2 (u0 := .int .i64 px) (u1 := .int .i64 py) T5
    obtain ⟨v0, v1, _, _⟩ := blk2 Z3
    go_wp2_with fail
    refine bodyPost_ret (v := .tuple #[.agg #[.int .i64 px, .int .i64 py], .bool true]) (by simp [results, Tryd.results38, go_sem, v0, v1]) rfl ?_
    exact ⟨by rw [e1.out]; rfl, (K6.setCell (p := ⟨w.heap.size, 0, none⟩) (Nat.le_refl _) _).setCell (p := ⟨w.heap.size, 1, none⟩) (Nat.le_refl _) _⟩
end Go.Proofs.YtfdnadiliedikaaDoor
namespace Go.Proofs.YtfdnadiliedikaaDoor
open Go.RowKit Go.Shelf Go.Sort
attribute [local go_sem] Oper.semAt_some

def colR : Go.Shelf.Ren := ⟨fun | 8 => 36 | 11 => 61 | n => n, fun | 0 => 0 | 24 => 46 | 26 => 9 | 28 => 60 | 33 => 39 | n => n, fun | n => n⟩
theorem colL : SlLaysZ.n11 Tryd.prog colR := {
  mixed := by kernel_rfl
  f11 := ⟨ "slices.AppendSeq[[]string,string]", by decide, Tryd.func61.trans (congrArg some (by kernel_rfl))⟩
  t0 := Tryd.underlying0
  a0 := Tryd.isAgg0
  z0 := Tryd.sizeOf0
  v0 := Tryd.zeroValue0
  t24 := Tryd.underlying46
  a24 := Tryd.isAgg46
  z24 := Tryd.sizeOf46
  v24 := Tryd.zeroValue46
  t26 := Tryd.underlying9
  a26 := Tryd.isAgg9
  z26 := Tryd.sizeOf9
  v26 := Tryd.zeroValue9
  t28 := Tryd.underlying60
  a28 := Tryd.isAgg60
  z28 := Tryd.sizeOf60
  v28 := Tryd.zeroValue60
  i26 := by kernel_rfl }

theorem ib_some : ∀ {x r : List UInt8}, (10 : UInt8) ∉ x → Lib.indexByte (x ++ 10 :: r) 10 = x.length
  | [], r, _ => by simp [Lib.indexByte]
  | c :: x, r, h => by
    have hc : (c == 10) = false := by simp only [beq_eq_false_iff_ne]; rintro rfl; exact h (by simp)
    have ih := ib_some (x := x) (r := r) (fun m => h (by simp [m]))
    simp only [List.cons_append, Lib.indexByte, hc, ih]
    have h1 : ((x.length : Int) == -1) = false := by rw [beq_eq_false_iff_ne]; omega
    simp [h1]
theorem ib_none : ∀ {x : List UInt8}, (10 : UInt8) ∉ x → Lib.indexByte x 10 = -1
  | [], _ => rfl
  | c :: x, h => by
    have hc : (c == 10) = false := by simp only [beq_eq_false_iff_ne]; rintro rfl; exact h (by simp)
    have ih := ib_none (x := x) (fun m => h (by simp [m]))
    simp [Lib.indexByte, hc, ih]

def w0r (w : World) (b : Nat) (r : List UInt8) : World := w.setCell ⟨b, 0, none⟩ (encStr r)
def boxLen (b : Nat) (w : World) : Nat := match w.cell? ⟨b, 0, none⟩ with | some (.string d) => d.size | _ => 0
theorem size_w0r (w : World) (b : Nat) (r : List UInt8) : (w0r w b r).heap.size = w.heap.size := by simp [w0r, World.setCell]
theorem w0r_block {w : World} {b : Nat} {z : List UInt8} {t : TypeId} (r : List UInt8) (h : w.heap[b]? = some (.cells #[encStr z] t (0, 0))) : (w0r w b r).heap[b]? = some (.cells #[encStr r] t (0, 0)) := heap_setCell_box_a _ h
theorem boxLen_of {b : Nat} {w : World} {r : List UInt8} {t : TypeId} (h : w.heap[b]? = some (.cells #[encStr r] t (0, 0))) : boxLen b w = r.length := by
  unfold boxLen; rw [(cell_of_box_a h).1]; simp [ByteArray.size]
section
variable {w W : World} {b : Nat} {r z : List UInt8} {t : TypeId} {fn : FuncId} {sv : Value} {Bs l D : Nat} {ss : List (List UInt8)}
theorem apAt_box (h : AnyZ.ApAt colR (w0r w b r) fn sv Bs l D ss W) (hb : b < w.heap.size) (hw : w.heap[b]? = some (.cells #[encStr z] t (0, 0))) : W.heap[b]? = some (.cells #[encStr r] t (0, 0)) :=
  (h.below.block b (by rw [size_w0r]; exact hb)).trans (w0r_block r hw)
theorem apAt_drew (h : AnyZ.ApAt colR (w0r w b r) fn sv Bs l D ss W) : AnyZ.ApAt colR (w0r w b r) fn sv Bs l D ss W.drew := ⟨h.box, h.L, h.K, h.below.drew⟩
theorem apAt_put (r' : List UInt8) (h : AnyZ.ApAt colR (w0r w b r) fn sv Bs l D ss W) (hb : b < w.heap.size) (hw : w.heap[b]? = some (.cells #[encStr z] t (0, 0))) (h1 : w.heap.size ≤ Bs) (h2 : w.heap.size ≤ l) (h3 : w.heap.size ≤ D) :
    AnyZ.ApAt colR (w0r w b r') fn sv Bs l D ss (W.setCell ⟨b, 0, none⟩ (encStr r')) := by
  have hW := apAt_box h hb hw
  have hg : W.grownBy (W.setCell ⟨b, 0, none⟩ (encStr r')) (some b) := grownBy_setCell0_a _ _ _
  have es := size_w0r w b r
  have es' := size_w0r w b r'
  obtain ⟨v, hv, hrow, hn⟩ := h.box
  rw [es] at hrow
  refine ⟨⟨v, (Below.heap_setCell _ _ _ _ (by dsimp only; omega)).trans hv, ?_, hn⟩, (Below.heap_setCell _ _ _ _ (by dsimp only; omega)).trans h.L, (Below.heap_setCell _ _ _ _ (by dsimp only; omega)).trans h.K, h.below.os, h.below.tape, h.below.output, ?_, ?_⟩
  · rw [es']
    exact hrow.kept hg (.inr fun e => absurd (hrow.lt b e).1 (by omega))
  · rw [es']; have := h.below.size; rw [es] at this; exact Nat.le_trans this hg.size
  · intro k hk
    rw [es'] at hk
    by_cases c : k = b
    · subst c; exact (heap_setCell_box_a _ hW).trans (w0r_block r' hw).symm
    · exact (Below.heap_setCell _ _ _ k (by dsimp only; exact c)).trans ((h.below.block k (by rw [es]; exact hk)).trans ((Below.heap_setCell w ⟨b, 0, none⟩ (encStr r) k (by dsimp only; exact c)).trans (Below.heap_setCell w ⟨b, 0, none⟩ (encStr r') k (by dsimp only; exact c)).symm))
theorem apAt_start (h : AnyZ.ApAt colR w fn sv Bs l D ss W) (hb : b < w.heap.size) (hw : w.heap[b]? = some (.cells #[encStr z] t (0, 0))) : AnyZ.ApAt colR (w0r w b z) fn sv Bs l D ss W := by
  have es := size_w0r w b z
  obtain ⟨v, hv, hrow, hn⟩ := h.box
  refine ⟨⟨v, hv, by rw [es]; exact hrow, hn⟩, h.L, h.K, h.below.os, h.below.tape, h.below.output, by rw [es]; exact h.below.size, ?_⟩
  intro k hk
  rw [es] at hk
  by_cases c : k = b
  · subst c; exact (h.below.block k hk).trans (hw.trans (w0r_block z hw).symm)
  · exact (h.below.block k hk).trans (Below.heap_setCell w ⟨b, 0, none⟩ (encStr z) k (by dsimp only; exact c)).symm
end

set_option maxRecDepth 100000 in
set_option maxHeartbeats 4000000 in
theorem lines1_in (m : Nat) (hm : 1 ≤ m) (b : Nat) (w : World) (z : List UInt8) (hz : z.length ≤ 100000) (hb : b < w.heap.size) (hw : w.heap[b]? = some (.cells #[encStr z] 9 (0, 0))) (fn : FuncId) (sv : Value) (Bs l D : Nat)
    (hBl : Bs ≠ l) (hDl : D ≠ l) (hDB : D ≠ Bs) (h0B : w.heap.size ≤ Bs) (h0l : w.heap.size ≤ l) (h0D : w.heap.size ≤ D) (W : World) (h0 : AnyZ.ApAt colR (w0r w b z) fn sv Bs l D [] W) :
    CallsIn Fence.wide m Tryd.prog 62 #[.func (.yield l) #[] #[], .pointer (some ⟨b, 0, none⟩)] W fun e W' => (∃ v, e = .returned v) ∧ AnyZ.ApAt colR (w0r w b []) fn sv Bs l D (lnsW z) W' := by
  have hmx : Tryd.prog.follows .mixedOrders = true := by kernel_rfl
  refine callsIn_of_wp Tryd.func62 rfl trivial ?_ rfl
  simp only [Tryd.ntmps62, List.size_toArray, List.length_cons, List.length_nil, Nat.reduceAdd, Nat.reduceSub, Array.replicate_succ, Array.replicate_zero, List.push_toArray, List.append_toArray, List.nil_append, List.cons_append]
  gi_wp2
  gi_loopw [] (fun wr => ∃ (r : List UInt8) (ss : List (List UInt8)), AnyZ.ApAt colR (w0r w b r) fn sv Bs l D ss wr ∧ ss ++ lnsW r = lnsW z ∧ ss.length + r.length ≤ z.length)
    (fun wr => boxLen b wr)
  case atStart => exact ⟨z, [], h0, rfl, by simp⟩
  case round =>
    obtain ⟨r, ss, hA, hss, hlen⟩ := hrel
    have hbx := apAt_box hA hb hw
    obtain ⟨hc, hf⟩ := cell_of_box_a hbx
    have hbl := boxLen_of hbx
    by_cases hr : r = []
    · subst hr
      have hc' : wr.cell? ⟨b, 0, none⟩ = some (.string ⟨#[]⟩) := hc
      have e : ss = lnsW z := by rw [← hss, lnsW_nil, List.append_nil]
      clear hc hss
      gi_wp2
      go_end0
      exact ⟨⟨_, rfl⟩, by rw [← e]; exact hA⟩
    · obtain ⟨d, hd⟩ : ∃ d : ByteArray, d = ⟨r.toArray⟩ := ⟨_, rfl⟩
      have hds : d.size = r.length := by rw [hd]; simp [ByteArray.size]
      have hdl : d.data.toList = r := by rw [hd]
      have hcd : wr.cell? ⟨b, 0, none⟩ = some (.string d) := by rw [hd]; exact hc
      have hrl : 0 < r.length := List.length_pos_iff.2 hr
      have hpos : (0 : Int) < (d.size : Int) := by omega
      clear hc
      by_cases hx : (10 : UInt8) ∈ r
      · obtain ⟨x, r', hre, hx'⟩ := cut_first' hx
        obtain ⟨k, hk⟩ : ∃ k, k = x.length := ⟨_, rfl⟩
        have hIB : Calls Tryd.prog 63 #[.string d, .int .u8 10] wr fun e v => e = .returned (.int .i64 (k : Int)) ∧ v = wr := by
          have h1 := shelfb_strings_IndexByte d 10 wr
          have e : Lib.indexByte d.data.toList (10 : Int).toNat.toUInt8 = k := by rw [hdl, hre, hk]; exact ib_some hx'
          rw [e] at h1; exact h1
        have hk2 : r.length = k + r'.length + 1 := by rw [hre, hk]; simp; omega
        have hge : (0 : Int) ≤ (k : Int) := Int.natCast_nonneg k
        have hwr : IntKind.i64.wrap ((k : Int) + 1) = (k : Int) + 1 := wrap_small (by omega) (by omega)
        have eL : Hid (encStr (x ++ [10]) = .string (d.extract 0 (k + 1))) := by
          show encStr (x ++ [10]) = _
          rw [hd, hre, hk]; simp [encStr, ByteArray.extract, ByteArray.copySlice]
          rw [show x ++ 10 :: r' = (x ++ [10]) ++ r' by simp, List.take_left' (by simp)]
        have eR : Hid (encStr r' = .string (d.extract (k + 1) d.size)) := by
          show encStr r' = _
          rw [hd, hre, hk]; simp [encStr, ByteArray.extract, ByteArray.copySlice, ByteArray.size]
          rw [List.take_of_length_le (by omega)]
        have eW : Hid (lnsW r = (x ++ [10]) :: lnsW r') := by
          show lnsW r = _
          rw [hre]; exact lnsW_word hx'
        replace hss : Hid (ss ++ lnsW r = lnsW z) := hss
        replace hbl : Hid (boxLen b wr = r.length) := hbl
        replace hIB : Hid (Calls Tryd.prog 63 #[.string d, .int .u8 10] wr fun e v => e = .returned (.int .i64 (k : Int)) ∧ v = wr) := hIB
        have hkd : (k : Int) + 1 ≤ (d.size : Int) := by omega
        replace hk2 : Hid (r.length = k + r'.length + 1) := hk2
        replace hds : Hid (d.size = r.length) := hds
        have hneg : ((k : Int) + 1 < 0) = False := eq_false (by omega)
        clear hd hre hk hx hx' hdl hr hbx hrl
        gi_wp2_with (refine ⟨trivial, ?_⟩; gi_at_call 63; refine (callsIn_wide.2 hIB.out).mono ?_; rintro e v ⟨rfl, hv⟩; rw [hv]; clear hv v)
        refine wpIn_wide.2 ?_
        have hS0 : wr.drew.cell? ⟨b, 0, none⟩ = some (.string d) := hcd
        refine wp_region_Z (z := 9) (S := fun u : World => u.cell? ⟨b, 0, none⟩ = some (.string d)) hmx ?_
        refine wpAnyZ_take (i := 0) (v := .string d) rfl rfl (by kernel_rfl) (by kernel_rfl) (by kernel_rfl) (by kernel_rfl) (fun _ _ _ h => h) (Or.inl ⟨by rfl, by intro w' s1; go_simp⟩) hS0 ?_
        refine wpAnyZ_take (i := 1) (v := .int .i64 (k : Int)) rfl rfl (by kernel_rfl) (by kernel_rfl) (by kernel_rfl) (by kernel_rfl) (fun _ _ _ h => h) (Or.inl ⟨by rfl, by intro w' s1; go_simp⟩) hS0 ?_
        refine wpAnyZ_take (i := 2) (v := .int .i64 ((k : Int) + 1)) rfl rfl (by kernel_rfl) (by kernel_rfl) (by kernel_rfl) (by kernel_rfl) (fun _ _ _ h => h) (Or.inl ⟨by rfl, by intro w' s1; go_simp⟩) hS0 ?_
        refine wpAnyZ_take (i := 3) (v := .string (d.extract 0 (k + 1))) rfl rfl (by kernel_rfl) (by kernel_rfl) (by kernel_rfl) (by kernel_rfl) (fun _ _ _ h => h) (Or.inl ⟨by rfl, by intro w' s1; go_simp⟩) hS0 ?_
        refine wpAnyZ_take (i := 4) (v := .string d) rfl rfl (by kernel_rfl) (by kernel_rfl) (by kernel_rfl) (by kernel_rfl) (fun _ _ _ h => h) (Or.inl ⟨by rfl, by intro w' s1; go_simp⟩) hS0 ?_
        refine wpAnyZ_take (i := 5) (v := .int .i64 (k : Int)) rfl rfl (by kernel_rfl) (by kernel_rfl) (by kernel_rfl) (by kernel_rfl) (fun _ _ _ h => h) (Or.inl ⟨by rfl, by intro w' s1; go_simp⟩) hS0 ?_
        refine wpAnyZ_take (i := 6) (v := .int .i64 ((k : Int) + 1)) rfl rfl (by kernel_rfl) (by kernel_rfl) (by kernel_rfl) (by kernel_rfl) (fun _ _ _ h => h) (Or.inl ⟨by rfl, by intro w' s1; go_simp⟩) hS0 ?_
        refine wpAnyZ_take (i := 7) (v := .string (d.extract (k + 1) d.size)) rfl rfl (by kernel_rfl) (by kernel_rfl) (by kernel_rfl) (by kernel_rfl) (fun _ _ _ h => h) (Or.inl ⟨by rfl, by intro w' s1; go_simp⟩) hS0 ?_
        refine wpAnyZ_take (i := 8) (v := .string (d.extract 0 (k + 1))) rfl rfl (by kernel_rfl) (by kernel_rfl) (by kernel_rfl) (by kernel_rfl) (fun _ _ _ h => h) (Or.inl ⟨by rfl, by intro w' s1; go_simp⟩) hS0 ?_
        refine wpAnyZ_one (i := 9) (by kernel_rfl) rfl rfl ?_
        go_simp
        refine ⟨by kernel_rfl, ?_⟩
        try simp only [Exit.then]
        have hA2 : AnyZ.ApAt colR (w0r w b r') fn sv Bs l D ss (wr.setCell ⟨b, 0, none⟩ (.string (d.extract (k + 1) d.size))).drew := apAt_drew (by rw [← eR.out]; exact apAt_put r' hA hb hw h0B h0l h0D)
        obtain ⟨W2, hW2⟩ : ∃ W2, (wr.setCell ⟨b, 0, none⟩ (.string (d.extract (k + 1) d.size))).drew = W2 := ⟨_, rfl⟩
        rw [hW2] at hA2 ⊢
        clear hW2 hcd hS0 hf
        have hlt : ss.length < 100000 := by have := hk2.out; omega
        obtain ⟨fn', tmps, assign, body, hy, hR⟩ := AnyZ.apYield colL Fence.wide (m - 1) (w0r w b r') fn trivial sv Bs l D hBl hDl hDB (by rw [size_w0r]; exact h0B) (by rw [size_w0r]; exact h0l) 100000 (by decide) (by decide) ss (x ++ [10]) W2 hA2 hlt
        rw [eL.out] at hy
        have hR2 := hR.mono (R' := fun e W' => e = .returned (.bool true) ∧ Hid (AnyZ.ApAt colR (w0r w b r') fn sv Bs l D (ss ++ [x ++ [10]]) W')) (by
          rintro e W' ⟨rfl, h1, _⟩
          exact ⟨rfl, h1⟩)
        clear hR hA2 hA
        gi_wp2
        refine hR2.mono ?_
        rintro e W3 ⟨rfl, hA3⟩
        clear hR2 hy
        have hnew : Hid ((ss ++ [x ++ [10]]) ++ lnsW r' = lnsW z) := by
          show _ = _
          have h2 := hss.out; rw [eW.out] at h2; rw [← h2]; simp
        replace hlen : Hid (ss.length + r.length ≤ z.length) := hlen
        gi_wp2
        go_roundw
        case rel => exact ⟨r', ss ++ [x ++ [10]], hA3.out, hnew.out, by have := hk2.out; have := hlen.out; simp; omega⟩
        case measure => rw [boxLen_of (apAt_box hA3.out hb hw), hbl.out, hk2.out]; omega
      · have hIB : Hid (Calls Tryd.prog 63 #[.string d, .int .u8 10] wr fun e v => e = .returned (.int .i64 (-1)) ∧ v = wr) := by
          have h1 := shelfb_strings_IndexByte d 10 wr
          have e : Lib.indexByte d.data.toList (10 : Int).toNat.toUInt8 = -1 := by rw [hdl]; exact ib_none hx
          rw [e] at h1; exact h1
        have eL : Hid (encStr r = .string d) := by show encStr r = _; rw [hd]
        have eW : Hid (lnsW r = [r]) := lnsW_free hx hr
        replace hss : Hid (ss ++ lnsW r = lnsW z) := hss
        replace hbl : Hid (boxLen b wr = r.length) := hbl
        replace hds : Hid (d.size = r.length) := hds
        replace hrl : Hid (0 < r.length) := hrl
        clear hd hx hdl hr hbx
        have hA2 : AnyZ.ApAt colR (w0r w b []) fn sv Bs l D ss (wr.setCell ⟨b, 0, none⟩ (.string ⟨#[]⟩)) := apAt_put [] hA hb hw h0B h0l h0D
        have hlt : ss.length < 100000 := by have := hrl.out; omega
        obtain ⟨fn', tmps, assign, body, hy, hR⟩ := AnyZ.apYield colL Fence.wide (m - 1) (w0r w b []) fn trivial sv Bs l D hBl hDl hDB (by rw [size_w0r]; exact h0B) (by rw [size_w0r]; exact h0l) 100000 (by decide) (by decide) ss r _ hA2 hlt
        rw [eL.out] at hy
        have hR2 := hR.mono (R' := fun e W' => e = .returned (.bool true) ∧ Hid (AnyZ.ApAt colR (w0r w b []) fn sv Bs l D (ss ++ [r]) W')) (by
          rintro e W' ⟨rfl, h1, _⟩
          exact ⟨rfl, h1⟩)
        clear hR hA2 hA
        have hnew : Hid ((ss ++ [r]) ++ lnsW [] = lnsW z) := by
          show _ = _
          have h2 := hss.out; rw [eW.out] at h2; rw [← h2, lnsW_nil]; simp
        replace hlen : Hid (ss.length + r.length ≤ z.length) := hlen
        gi_wp2_with (refine ⟨trivial, ?_⟩; gi_at_call 63; refine (callsIn_wide.2 hIB.out).mono ?_; rintro e v ⟨rfl, hv⟩; rw [hv]; clear hv v)
        refine hR2.mono ?_
        rintro e W3 ⟨rfl, hA3⟩
        clear hR2 hy
        gi_wp2
        go_roundw
        case rel => exact ⟨[], ss ++ [r], hA3.out, hnew.out, by have := hrl.out; have := hlen.out; simp; omega⟩
        case measure => rw [boxLen_of (apAt_box hA3.out hb hw), hbl.out]; exact hrl.out

end Go.Proofs.YtfdnadiliedikaaDoor
namespace Go.Proofs.YtfdnadiliedikaaDoor
open Go.RowKit Go.Shelf Go.Sort
attribute [local go_sem] Oper.semAt_some
set_option maxRecDepth 100000 in
set_option maxHeartbeats 4000000 in
theorem appendLines_in (n : Nat) (hn : 2 ≤ n) (b : Nat) (w : World) (z : List UInt8) (hz : z.length ≤ 100000) (hb : b < w.heap.size) (hw : w.heap[b]? = some (.cells #[encStr z] 9 (0, 0))) :
    CallsIn Fence.wide n Tryd.prog (colR.f 11) #[.slice none 0 0, .func (.func 62) #[] #[.pointer (some ⟨b, 0, none⟩)]] w fun e w' => ∃ v : Value, e = .returned v ∧ w'.ownsRow w.heap.size (colR.t 26) 1 v (lnsW z).length ((lnsW z).map encStr) ∧ Below b w w' := by
  have h1 : 1 ≤ n := by omega
  have L := colL
  have mixed := L.mixed; have t0 := L.t0; have a0 := L.a0; have z0 := L.z0; have v0 := L.v0; have t24 := L.t24; have a24 := L.a24; have z24 := L.z24; have v24 := L.v24; have t26 := L.t26; have a26 := L.a26; have z26 := L.z26; have v26 := L.v26; have t28 := L.t28; have a28 := L.a28; have z28 := L.z28; have v28 := L.v28
  have hne : colR.t 24 ≠ colR.t 26 := fun e => by have h := L.t24; rw [e, L.t26] at h; cases h
  have u0 := run_underlying L.t0; have u24 := run_underlying L.t24; have u26 := run_underlying L.t26; have u28 := run_underlying L.t28
  obtain ⟨_, _, FG⟩ := L.f11
  refine callsIn_of_wp_marks FG rfl trivial ?_ rfl
  simp only [SlBodyZ.n11_ntmps colR, List.size_toArray, List.length_cons, List.length_nil, Nat.reduceAdd, Nat.reduceSub, Array.replicate_succ, Array.replicate_zero, List.push_toArray, List.append_toArray, List.nil_append, List.cons_append]
  gi_wp2
  refine wpIn_rangeFunc ?_
  intro fn hfn
  obtain ⟨sv, hsv⟩ : ∃ sv : Value, sv = .func (.func 62) #[] #[.pointer (some ⟨b, 0, none⟩)] := ⟨_, rfl⟩
  obtain ⟨W0, hW0⟩ : ∃ W0, w.alloc (.cells #[.slice none 0 0] (colR.t 24)) = W0 := ⟨_, rfl⟩
  have hs0 : W0.heap.size = w.heap.size + 1 := by rw [← hW0]; simp
  have hv0 : W0.heap[w.heap.size]? = some (.cells #[.slice none 0 0] (colR.t 24) (0, 0)) := by rw [← hW0]; exact World.alloc_heap_new w _
  have hb0 : Below w.heap.size w W0 := by rw [← hW0]; exact (Below.refl _ w).alloc (Nat.le_refl _) _
  rw [hW0]
  obtain ⟨W1, hW1⟩ : ∃ W1, (W0.alloc (.deferred (some []))).alloc (.loop (AnyZ.apRec colR fn sv w.heap.size W0.heap.size .ready none)) = W1 := ⟨_, rfl⟩
  have hold : ∀ k, k < W0.heap.size → W1.heap[k]? = W0.heap[k]? := fun k hk => by
    rw [← hW1]; exact (Below.heap_alloc _ _ k (by simp; omega)).trans (Below.heap_alloc _ _ k hk)
  have hb1 : Below w.heap.size w W1 := by rw [← hW1]; exact (hb0.alloc hb0.size _).alloc (by have := hb0.size; simp; omega) _
  have hs1 : W1.heap.size = W0.heap.size + 2 := by rw [← hW1]; simp
  have hM : AnyZ.ApAt colR w fn sv w.heap.size (W0.heap.size + 1) W0.heap.size [] W1 :=
    ⟨⟨_, (hold w.heap.size (by omega)).trans hv0, ⟨rfl, .inl ⟨rfl, rfl⟩⟩, by simp⟩,
     by rw [← hW1]; have := World.alloc_heap_new (W0.alloc (.deferred (some []))) (.loop (AnyZ.apRec colR fn sv w.heap.size W0.heap.size .ready none)); rwa [World.size_alloc] at this,
     by rw [← hW1]; exact (Below.heap_alloc _ _ _ (by simp)).trans (World.alloc_heap_new W0 _), hb1⟩
  refine ⟨W0.heap.size + 1, [{ target := .collected W0.heap.size, args := #[] }], W1, { target := .fn (.func 62) #[.pointer (some ⟨b, 0, none⟩)], args := #[.func (.yield (W0.heap.size + 1)) #[] #[]] }, W1, 62,
    #[.func (.yield (W0.heap.size + 1)) #[] #[]] ++ #[.pointer (some ⟨b, 0, none⟩)], W1, ?_, ?_, ?_, ?_, fun _ => h1, ?_⟩
  · rw [← hW1, hsv]; exact run_enterLoop_outer _ _ _ _ _
  · simp [resolve, go_sem]
  · intro f' hf'; trivial
  · simp [invoke, go_sem]
  · refine (lines1_in (n - 1) (by omega) b w z hz hb hw fn sv w.heap.size (W0.heap.size + 1) W0.heap.size (by omega) (by omega) (by omega) (Nat.le_refl _) (by omega) (by omega) W1 (apAt_start hM hb hw)).mono ?_
    rintro e W2 ⟨⟨v0, rfl⟩, h2⟩
    obtain ⟨v, hv, hrow, hnil⟩ := h2.box
    rw [size_w0r] at hrow
    have hend := run_endLoop (P := Tryd.prog) h2.L (by simp [AnyZ.apRec])
    obtain ⟨W3, hW3⟩ : ∃ W3, W2.putObj (W0.heap.size + 1) (.loop { AnyZ.apRec colR fn sv w.heap.size W0.heap.size .ready none with state := .exhausted }) = W3 := ⟨_, rfl⟩
    rw [hW3] at hend
    have hg3 : W2.grownBy W3 (some (W0.heap.size + 1)) := by rw [← hW3]; exact grownBy_putObj_a _ _ _
    have hv3 : W3.heap[w.heap.size]? = some (.cells #[v] (colR.t 24) (0, 0)) := by rw [← hW3]; exact (World.putObj_heap_other (by omega)).trans hv
    have hK3 : W3.heap[W0.heap.size]? = some (.deferred (some [])) := by rw [← hW3]; exact (World.putObj_heap_other (by omega)).trans h2.K
    have hrow3 := hrow.kept hg3 (ownsRow_ne_a hrow h2.L (fun cur e => by first | cases e | exact hne (Obj.cells.inj e).2.1))
    have hbb : Below b w W2 := ⟨h2.below.os, h2.below.tape, h2.below.output, by have := h2.below.size; rw [size_w0r] at this; exact this, fun k hk => (h2.below.block k (by rw [size_w0r]; omega)).trans (Below.heap_setCell w ⟨b, 0, none⟩ (encStr []) k (by dsimp only; omega))⟩
    have hb3 : Below b w W3 := hbb.grown hg3 (by have := hbb.size; omega) (fun k e => by cases e; omega)
    obtain ⟨hc3, hf3⟩ := cell_of_box_a hv3
    clear hW3
    refine ⟨none, W3, hend, ?_⟩
    gi_wp2
    rw [← hs0]
    refine ⟨by simp, .inl ⟨_, _, rfl, run_takeDeferred hK3, ?_⟩⟩
    exact ⟨_, results_tmp rfl _ _ _, v, rfl, hrow3.kept (grownBy_putObj_a _ _ _) (ownsRow_ne_a hrow3 hK3 (fun cur e => by first | cases e | exact hne (Obj.cells.inj e).2.1)), hb3.grown (grownBy_putObj_a _ _ _) (by have := hb3.size; omega) (fun k e => by cases e; omega)⟩

end Go.Proofs.YtfdnadiliedikaaDoor
namespace Go.Proofs.YtfdnadiliedikaaDoor
open Go.RowKit Go.Shelf Go.Sort
attribute [local go_sem] Oper.semAt_some
theorem appendLines_any (b : Nat) (w : World) (z : List UInt8) (hz : z.length ≤ 100000) (hb : b < w.heap.size) (hw : w.heap[b]? = some (.cells #[encStr z] 9 (0, 0))) :
    Calls Tryd.prog 61 #[.slice none 0 0, .func (.func 62) #[] #[.pointer (some ⟨b, 0, none⟩)]] w fun e w' => ∃ v : Value, e = .returned v ∧ w'.ownsRow w.heap.size 9 1 v (lnsW z).length ((lnsW z).map encStr) ∧ Below b w w' :=
  callsIn_wide.1 (appendLines_in 2 (Nat.le_refl _) b w z hz hb hw)
set_option maxRecDepth 100000 in
set_option maxHeartbeats 2000000 in
theorem collectLines_any (b : Nat) (w : World) (z : List UInt8) (hz : z.length ≤ 100000) (hb : b < w.heap.size) (hw : w.heap[b]? = some (.cells #[encStr z] 9 (0, 0))) :
    Calls Tryd.prog 36 #[.func (.func 62) #[] #[.pointer (some ⟨b, 0, none⟩)]] w fun e w' => ∃ v : Value, e = .returned v ∧ w'.ownsRow w.heap.size 9 1 v (lnsW z).length ((lnsW z).map encStr) ∧ Below b w w' := by
  go_enter Tryd.func36, Tryd.ntmps36
  have hA := appendLines_any b w z hz hb hw
  go_wp2_with (go_at_call 61; refine hA.mono ?_; rintro e w1 ⟨v, rfl, hrow, hB⟩)
  exact bodyPost_ret (by simp [results, go_sem]) rfl ⟨v, rfl, hrow, hB⟩
set_option maxHeartbeats 2000000 in
theorem lines_any (d : ByteArray) (w : World) : Calls Tryd.prog 37 #[.string d] w fun e w' => e = .returned (.func (.func 62) #[] #[.pointer (some ⟨w.heap.size, 0, none⟩)]) ∧ w' = w.alloc (.cells #[.string d] 9) := by
  go_enter Tryd.func37, Tryd.ntmps37
  go_wp2
  exact bodyPost_ret (by simp [results, go_sem]) rfl ⟨rfl, rfl⟩
end Go.Proofs.YtfdnadiliedikaaDoor
namespace Go.Proofs.YtfdnadiliedikaaDoor
open Go.RowKit Go.Sort Go.Conc

/-- A slice of strings. -/
def StrRow (W : World) (a : Option Addr) (n : Nat) (xs : List ByteArray) : Prop :=
  xs.length = n ∧ (n = 0 ∨ ∃ g, a = some ⟨g, 0, none⟩ ∧ g < W.heap.size ∧ ∀ j x, xs[j]? = some x → W.cell? ⟨g, j, none⟩ = some (.string x))
theorem StrRow.below {W W' : World} {a : Option Addr} {n : Nat} {xs : List ByteArray} (h : StrRow W a n xs) (J : Below W.heap.size W W') : StrRow W' a n xs := by
  obtain ⟨h1, h2⟩ := h
  refine ⟨h1, h2.imp id ?_⟩
  rintro ⟨g, e, hg, hc⟩
  exact ⟨g, e, Nat.lt_of_lt_of_le hg J.size, fun j x hx => (J.cell (p := ⟨g, j, none⟩) hg).trans (hc j x hx)⟩
theorem mkch (n : Nat) (hn : n ≤ 1000000) (w : World) : (Instr.makeChan 79 (.int .i64 (n : Int))).run Tryd.prog w = .ok (.chan (some w.heap.size)) (w.alloc (.chan n #[] false 0 0 false)) := by
  have h : (Tryd.prog.info? 9).map (·.bytes) = some 16 := by kernel_rfl
  obtain ⟨i, hi, hb⟩ := Option.map_eq_some_iff.1 h
  simpa using run_makeChan (P := Tryd.prog) (w := w) Tryd.underlying79 hi .i64 n (by omega) (by rw [hb]; omega)
set_option maxRecDepth 100000 in
set_option maxHeartbeats 2000000 in
theorem sent_ok (a : Option Addr) (n c : Nat) (xs : List ByteArray) (w : World) (hS : StrRow w a n xs) (hn : n ≤ 100000) :
    Calls Tryd.prog 31 #[.slice a n c] w fun e w' => ∃ ch, e = .returned (.chan (some ch)) ∧ w'.heap[ch]? = some (.chan n (xs.map Value.string).toArray true n 0 false) ∧ w.heap.size ≤ ch ∧ Below w.heap.size w w' := by
  have hmk := mkch n (by omega) w
  refine calls_of_wpN Tryd.func31 rfl ?_
  simp only [Tryd.f31, List.size_toArray, List.length_cons, List.length_nil, Nat.reduceAdd, Nat.reduceSub, Array.replicate_succ, Array.replicate_zero, List.push_toArray, List.append_toArray, List.nil_append, List.cons_append]
  refine wpN_seq (wpN_of ?_)
  go_wp2_with fail
  refine wpN_seq (wpN_of ?_)
  go_wp2_with fail
  refine wpN_seq (wpN_seq (wpN_of ?_))
  go_wp2_with fail
  refine wpN_block ?_
  obtain ⟨hSl, hSc⟩ := hS
  have hin : ∀ k, k < n → ∃ x, xs[k]? = some x ∧ ∃ g, a = some ⟨g, 0, none⟩ ∧ g < w.heap.size ∧ w.cell? ⟨g, k, none⟩ = some (.string x) := fun k hk => by
    rcases hSc with h0 | ⟨g, e, hg, hc⟩
    · omega
    · exact ⟨xs[k]'(by omega), List.getElem?_eq_getElem _, g, e, hg, hc k _ (List.getElem?_eq_getElem _)⟩
  refine wpN_loop n (fun j a' w' => ∃ (k : Nat) (x5 x12 x13 x14 x15 x16 x17 : Value), k + j = n ∧ a' = { tmps := #[.slice a n c, undef, .chan none, .chan (some w.heap.size), undef, x5, .slice a n c, .int .i64 n, .chan (some w.heap.size), .slice a n c, .int .i64 n, .int .i64 k, x12, x13, x14, x15, x16, x17, undef, undef], defers := [] } ∧ w'.heap[w.heap.size]? = some (.chan n ((xs.take k).map Value.string).toArray false k 0 false) ∧ Below w.heap.size w w') ?_ ?_ ?_
  · exact ⟨0, _, _, _, _, _, _, _, by omega, rfl, by simpa using heap_new w _, (by repeat (first | exact bw_refl _ | assumption | apply bw_drewN | apply bw_drew | apply bw_alloc | refine bw_set ?_ (by simp) _))⟩
  · rintro j a' w' ⟨k, x5, x12, x13, x14, x15, x16, x17, hk, rfl, hch, hB⟩
    obtain ⟨x, hx, g, rfl, hg, hcx⟩ := hin k (by omega)
    have c0 : w'.cell? ⟨g, k, none⟩ = some (.string x) := (hB.cell (p := ⟨g, k, none⟩) hg).trans hcx
    have hlt : (k : Int) < (n : Int) := by omega
    have i0 : (0 : Int) ≤ (k : Int) := Int.natCast_nonneg _
    refine wpN_seq (wpN_of ?_)
    go_wp2_with fail
    refine wpN_seq (wpN_of ?_)
    go_wp2_with fail
    refine wpN_seq (wpN_block (wpN_seq (wpN_of ?_)))
    go_wp2_with fail
    refine wpN_region ?_
    simp only [List.size_toArray, List.length_cons, List.length_nil, Nat.reduceAdd, List.range, List.range.loop]
    refine wpM_value (w' := w') (v := .chan (some w.heap.size)) rfl (by rfl) (by simp [go_sem]) ?_
    refine wpM_value (w' := w') (v := .string x) rfl (by rfl) (by simp [go_sem, Act.put]) ?_
    refine wpM_send (c := w.heap.size) (v := .string x) (z' := .tuple #[]) rfl (by rfl) (by simp [execOp, scase, Act.eval, Act.put]) hch (by simp; omega) ?_
    refine wpM_done ?_
    simp only [Exit.inBlock, Exit.then]
    refine wpN_of ?_
    have hsn : Hid ((((xs.take k).map Value.string).toArray).push (.string x) = ((xs.take (k + 1)).map Value.string).toArray) := by
      change _ = _
      rw [List.take_add_one, hx]
      simp
    have hlc := blk_lt hch
    rw [hsn.out]
    have hV1 := heap_setChan w' w.heap.size n ((xs.take (k + 1)).map Value.string).toArray false (k + 1) 0 false hlc
    have hV2 := below_setChan hB (Nat.le_refl _) n ((xs.take (k + 1)).map Value.string).toArray false (k + 1) 0 false
    generalize w'.setChan w.heap.size n ((xs.take (k + 1)).map Value.string).toArray false (k + 1) 0 false = V at hV1 hV2 ⊢
    go_wp2_with fail
    exact ⟨k + 1, .string x, .bool true, .pointer (some ⟨g, k, none⟩), .string x, .chan (some w.heap.size), .string x, .int .i64 ((k : Int) + 1), by omega, by simp, hV1, hV2⟩
  · rintro a' w' ⟨k, x5, x12, x13, x14, x15, x16, x17, hk, rfl, hch, hB⟩
    obtain rfl : k = n := by omega
    have hall : Hid (xs.take k = xs) := List.take_of_length_le (by rw [hSl]; exact Nat.le_refl _)
    rw [hall.out] at hch
    have hcl := fun ats ty => run_close_open (P := Tryd.prog) (w := w') ats ty hch
    have hlc := blk_lt hch
    refine wpN_seq (wpN_of ?_)
    go_wp2_with fail
    refine wpN_seq (wpN_of ?_)
    go_wp2_with fail
    refine wpN_seq (wpN_of ?_)
    go_wp2_with fail
    refine wpN_of ?_
    go_wp2_with fail
    refine bodyPost_ret (v := .chan (some w.heap.size)) (by simp [results, go_sem]) rfl ?_
    exact ⟨w.heap.size, rfl, heap_setChan _ _ _ _ _ _ _ _ hlc, Nat.le_refl _, below_setChan hB (Nat.le_refl _) _ _ _ _ _ _⟩
end Go.Proofs.YtfdnadiliedikaaDoor
namespace Go.Proofs.YtfdnadiliedikaaDoor
open Go.RowKit Go.Sort

set_option maxRecDepth 100000 in
set_option maxHeartbeats 4000000 in
theorem allPts_any (a : Option Addr) (np cp : Nat) (l : List P2) (w : World) (hP : Pts w.heap.size w a np l) (hn : np ≤ 1048576) :
    Calls Tryd.prog 70 #[.slice a np cp] w fun e W' => e = .returned (.bool (l.all okP)) ∧ Below w.heap.size w W' := by
  obtain ⟨hlen, hP⟩ := hP
  have HL : Hid (l.length = np) := hlen
  clear hlen
  go_enter Tryd.func70, Tryd.ntmps70
  go_wp2_with fail
  go_loopw [7] (fun i wr => ∃ k : Nat, k ≤ np ∧ i = .int .i64 k ∧ (∀ j, j < k → okP (ptAt l j) = true) ∧ Below w.heap.size w wr) (fun i _ => np - (intOf i).toNat)
  case atStart => exact ⟨0, Nat.zero_le _, rfl, fun j hj => absurd hj (Nat.not_lt_zero _), bw_refl _⟩
  case round =>
    obtain ⟨k, hk, rfl, hok, hnx⟩ := hrel
    have HOK : Hid (∀ j, j < k → okP (ptAt l j) = true) := hok
    clear hok
    by_cases hlt : k < np
    case neg =>
      obtain rfl : k = np := by omega
      have e1 : Hid (l.all okP = true) := List.all_eq_true.2 (all_at.2 (fun i hi => HOK.out i (by rw [← HL.out]; exact hi)))
      go_wp2_with fail
      go_ret
      exact ⟨by rw [e1.out]; rfl, hnx⟩
    case pos =>
      rcases hP with h0 | ⟨g, off, rfl, hg, hc⟩
      · omega
      have i3 : (0 : Int) ≤ (k : Int) := Int.natCast_nonneg _
      have i4 : (k : Int) < (np : Int) := by omega
      obtain ⟨d0, d1⟩ := hc k hlt
      have q0 := (hnx.cell (p := ⟨g, off + k * 2, none⟩) hg).trans d0
      have q1 := (hnx.cell (p := ⟨g, off + k * 2 + 1, none⟩) hg).trans d1
      have h1 := ptOk_any (ptAt l k).1 (ptAt l k).2
      clear hc d0 d1
      cases hp : okP (ptAt l k)
      · have e1 : Hid (l.all okP = false) := by
          change _ = _
          rw [Bool.eq_false_iff]
          intro h
          rw [all_at.1 (List.all_eq_true.1 h) k (by rw [HL.out]; exact hlt)] at hp
          cases hp
        unfold okP at hp
        rw [hp] at h1
        go_wp2_with fail
        refine (h1 _).mono ?_
        rintro e w1 ⟨rfl, J⟩
        go_wp2_with fail
        go_ret
        exact ⟨by rw [e1.out]; rfl, bw_trans hnx (bw_trans (by repeat (first | exact bw_refl _ | assumption | apply bw_drewN | apply bw_drew | apply bw_alloc | refine bw_set ?_ (by simp) _)) J)⟩
      · have HQ : Hid (okP (ptAt l k) = true) := hp
        unfold okP at hp
        rw [hp] at h1
        go_wp2_with fail
        refine (h1 _).mono ?_
        rintro e w1 ⟨rfl, J⟩
        go_wp2_with fail
        go_roundw
        case rel => exact ⟨k + 1, by omega, by simp, fun j hj => by rcases Nat.lt_or_ge j k with h | h; exact HOK.out j h; obtain rfl : j = k := (by omega); exact HQ.out, bw_trans hnx (bw_trans (by repeat (first | exact bw_refl _ | assumption | apply bw_drewN | apply bw_drew | apply bw_alloc | refine bw_set ?_ (by simp) _)) J)⟩
        case measure => simp [intOf]; omega
set_option maxHeartbeats 4000000 in
theorem square_ok (p q : P2) (w : World) (hp : okP p = true) (hq : okP q = true) :
    Calls Tryd.prog 53 #[.agg #[.int .i64 p.1, .int .i64 p.2], .agg #[.int .i64 q.1, .int .i64 q.2]] w fun e W' => e = .returned (.int .i64 (dt p.1 p.2 q.1 q.2 q.1 q.2)) ∧ Below w.heap.size w W' := by
  have hc := fun V => along_any p.1 p.2 q.1 q.2 q.1 q.2 V hp hq hq
  generalize dt p.1 p.2 q.1 q.2 q.1 q.2 = z at *
  go_enter Tryd.func53, Tryd.ntmps53
  go_wp2_with fail
  refine (hc _).mono ?_
  rintro e v ⟨rfl, J⟩
  go_wp2_with fail
  go_ret
  exact ⟨rfl, bw_trans (by repeat (first | exact bw_refl _ | assumption | apply bw_drewN | apply bw_drew | apply bw_alloc | refine bw_set ?_ (by simp) _)) J⟩
set_option maxHeartbeats 4000000 in
theorem step_any (p q : P2) (w : World) :
    Calls Tryd.prog 41 #[.agg #[.int .i64 p.1, .int .i64 p.2], .agg #[.int .i64 q.1, .int .i64 q.2]] w fun e W' => e = .returned (.agg #[.int .i64 (cmpI q.1 p.1), .int .i64 (cmpI q.2 p.2)]) ∧ Below w.heap.size w W' := by
  obtain ⟨W, hW, H, SB, RB, QB⟩ := boxes3 w (.cells #[.int .i64 p.1, .int .i64 p.2] 42) (.cells #[.int .i64 q.1, .int .i64 q.2] 42) (.cells #[.int .i64 0, .int .i64 0] 42)
  have L1 : Hid _ := fun w => cmpInt_any q.1 p.1 w
  have L2 : Hid _ := fun w => cmpInt_any q.2 p.2 w
  go_enter Tryd.func41, Tryd.ntmps41
  go_upto_region 1 with fail
  rw [← hW]
  have zr := blk_lt QB
  replace H := H.drew
  have hS0 : (fun w' : World => w'.cell? ⟨w.heap.size, 0, none⟩ = some (.int .i64 p.1) ∧ w'.cell? ⟨w.heap.size, 1, none⟩ = some (.int .i64 p.2) ∧ w'.cell? ⟨w.heap.size + 1, 0, none⟩ = some (.int .i64 q.1) ∧ w'.cell? ⟨w.heap.size + 1, 1, none⟩ = some (.int .i64 q.2)) W := by
    obtain ⟨a0, a1⟩ := blk_2 SB
    obtain ⟨a2, a3⟩ := blk_2 RB
    exact ⟨a0, a1, a2, a3⟩
  clear hW SB RB
  replace QB : W.drew.heap[w.heap.size + 2]? = _ := QB
  go_region_held3 (fun w' : World => w'.cell? ⟨w.heap.size, 0, none⟩ = some (.int .i64 p.1) ∧ w'.cell? ⟨w.heap.size, 1, none⟩ = some (.int .i64 p.2) ∧ w'.cell? ⟨w.heap.size + 1, 0, none⟩ = some (.int .i64 q.1) ∧ w'.cell? ⟨w.heap.size + 1, 1, none⟩ = some (.int .i64 q.2)) (first | with_reducible exact cB4 K (by assumption) | exact hS0 | exact cS4 (by assumption) (by dsimp only; omega) (by dsimp only; omega) (by dsimp only; omega) (by dsimp only; omega)) (first | (go_at_call 67; (with_reducible refine (L1.out _).mono ?_); clear L1; rintro e v1 ⟨rfl, K⟩; replace H := bw_trans H K; replace QB := keep K QB; obtain ⟨q0, q1, q2, q3⟩ := blk2 QB) | (go_at_call 67; (with_reducible refine (L2.out _).mono ?_); clear L2; rintro e v2 ⟨rfl, K⟩; replace H := bw_trans H K; replace QB := keep K QB; obtain ⟨q0, q1, q2, q3⟩ := blk2 QB))
  have HB : Hid _ := H
  have zz := blk_lt QB
  have r0 : ((v2.setCell ⟨w.heap.size + 1 + 1, 0, none⟩ (.int .i64 (cmpI q.1 p.1))).setCell ⟨w.heap.size + 1 + 1, 1, none⟩ (.int .i64 (cmpI q.2 p.2))).cell? ⟨w.heap.size + 1 + 1, 0, none⟩ = some (.int .i64 (cmpI q.1 p.1)) := by
    rw [row_cell (setCell_row (setCell_row QB _) _)]; rfl
  have r1 : ((v2.setCell ⟨w.heap.size + 1 + 1, 0, none⟩ (.int .i64 (cmpI q.1 p.1))).setCell ⟨w.heap.size + 1 + 1, 1, none⟩ (.int .i64 (cmpI q.2 p.2))).cell? ⟨w.heap.size + 1 + 1, 1, none⟩ = some (.int .i64 (cmpI q.2 p.2)) := by
    rw [row_cell (setCell_row (setCell_row QB _) _)]; rfl
  clear H QB
  go_wp2_with fail
  exact bodyPost_ret (v := .agg #[.int .i64 (cmpI q.1 p.1), .int .i64 (cmpI q.2 p.2)]) (by simp [results, Tryd.results41, go_sem, r0, r1]) rfl ⟨rfl, bw_set (bw_set HB.out (by dsimp only; omega) _) (by dsimp only; omega) _⟩
/-- As many points as a path may have, all of the grid. -/
def enV (l : List P2) : Bool := decide (1 ≤ l.length ∧ l.length ≤ 400) && l.all okP
theorem enV_len {l : List P2} (h : ¬ (1 ≤ l.length ∧ l.length ≤ 400)) : enV l = false := by unfold enV; rw [decide_eq_false h]; rfl
theorem enV_in {l : List P2} (h : 1 ≤ l.length ∧ l.length ≤ 400) : enV l = l.all okP := by unfold enV; rw [decide_eq_true h]; rfl
theorem enV_iff {l : List P2} : enV l = true ↔ (1 ≤ l.length ∧ l.length ≤ 400) ∧ ∀ i, i < l.length → okP (ptAt l i) = true := by
  unfold enV
  rw [Bool.and_eq_true, decide_eq_true_eq, List.all_eq_true, all_at]
theorem pathP_en (l : List P2) : pathP l = (enV l && chL l) := rfl
set_option maxRecDepth 100000 in
set_option maxHeartbeats 4000000 in
theorem enough_any (a : Option Addr) (np cp : Nat) (l : List P2) (w : World) (hP : Pts w.heap.size w a np l) (hn : np ≤ 1048576) :
    Calls Tryd.prog 52 #[.slice a np cp] w fun e W' => e = .returned (.bool (enV l)) ∧ Below w.heap.size w W' := by
  have h1 := allPts_any a np cp l w hP hn
  have hl := hP.1
  by_cases c1 : np < 1
  · have e1 : Hid (enV l = false) := enV_len (by omega)
    have i2 : ¬ (1 ≤ (np : Int)) := by omega
    go_enter Tryd.func52, Tryd.ntmps52
    go_wp2_with fail
    go_ret
    exact ⟨by rw [e1.out]; rfl, bw_refl _⟩
  by_cases c2 : 400 < np
  · have e1 : Hid (enV l = false) := enV_len (by omega)
    have i2 : (1 ≤ (np : Int)) := by omega
    have i3 : ¬ ((np : Int) ≤ 400) := by omega
    go_enter Tryd.func52, Tryd.ntmps52
    go_wp2_with fail
    go_ret
    exact ⟨by rw [e1.out]; rfl, bw_refl _⟩
  have e1 : Hid (enV l = l.all okP) := enV_in (by omega)
  have i2 : (1 ≤ (np : Int)) := by omega
  have i3 : ((np : Int) ≤ 400) := by omega
  go_enter Tryd.func52, Tryd.ntmps52
  go_wp2_with fail
  refine h1.mono ?_
  rintro e w1 ⟨rfl, J⟩
  go_wp2_with fail
  go_ret
  exact ⟨by rw [e1.out]; rfl, J⟩
set_option maxRecDepth 100000 in
set_option maxHeartbeats 4000000 in
theorem isPath_any (a : Option Addr) (np cp : Nat) (l : List P2) (w : World) (hcp : np ≤ cp) (hP : Pts w.heap.size w a np l) (hn : np ≤ 1048576) :
    Calls Tryd.prog 40 #[.slice a np cp] w fun e W' => e = .returned (.bool (pathP l)) ∧ Below w.heap.size w W' := by
  have h1 := enough_any a np cp l w hP hn
  cases hen : enV l
  · have e1 : Hid (pathP l = false) := by change _ = _; rw [pathP_en, hen]; rfl
    rw [hen] at h1
    go_enter Tryd.func40, Tryd.ntmps40
    go_wp2_with fail
    refine h1.mono ?_
    rintro e w1 ⟨rfl, J⟩
    go_wp2_with fail
    go_ret
    exact ⟨by rw [e1.out]; rfl, J⟩
  rw [hen] at h1
  obtain ⟨⟨hl1, hl2⟩, hok⟩ := enV_iff.1 hen
  obtain ⟨hlen, hP⟩ := hP
  have HL : Hid (l.length = np) := hlen
  have HEN : Hid (enV l = true) := hen
  have HOK : Hid (∀ i, i < np → okP (ptAt l i) = true) := fun i hi => hok i (by rw [hlen]; exact hi)
  rw [hlen] at hl1 hl2
  rcases hP with h0 | ⟨g, off, rfl, hg, hc⟩
  · omega
  have HC : Hid (∀ j, j < np → w.cell? ⟨g, off + j * 2, none⟩ = some (.int .i64 (ptAt l j).1) ∧ w.cell? ⟨g, off + j * 2 + 1, none⟩ = some (.int .i64 (ptAt l j).2)) := hc
  clear hlen hc hok hen
  obtain ⟨m, rfl⟩ : ∃ m, np = m + 1 := ⟨np - 1, by omega⟩
  obtain ⟨c, rfl⟩ : ∃ c, cp = c + 1 := ⟨cp - 1, by omega⟩
  have j1 : (1 : Int) ≤ ((m + 1 : Nat) : Int) := by omega
  have j2 : ((m + 1 : Nat) : Int) ≤ ((c + 1 : Nat) : Int) := by omega
  have E : ∀ (h : ∀ j, j < m → besP (ptAt l j) (ptAt l (j + 1)) = true), Hid (pathP l = true) := fun h => by
    change _ = _
    rw [pathP_en, HEN.out, (chL_iff l).2 (fun i hi => h i (by rw [HL.out] at hi; omega))]; rfl
  rcases Nat.eq_zero_or_pos m with hm | hm
  · subst hm
    have e1 := E (fun j hj => absurd hj (Nat.not_lt_zero _))
    clear E
    go_enter Tryd.func40, Tryd.ntmps40
    go_wp2_with fail
    refine h1.mono ?_
    rintro e w1 ⟨rfl, J⟩
    go_wp2_with fail
    all_goals
      refine wp_loop_rounds 2 ?_
      rw [rounds_succ]
      go_wp2_with fail
      go_ret
      exact ⟨by rw [e1.out]; rfl, J⟩
  · have hc0 : (c = 0) = False := by simp; omega
    have k1 : IntKind.i64.wrap ((m : Int)) = (m : Int) := wrap_small (by omega) (by omega)
    go_enter Tryd.func40, Tryd.ntmps40
    go_wp2_with fail
    refine h1.mono ?_
    rintro e w1 ⟨rfl, J⟩
    go_wp2_with fail
    go_loopw [11] (fun i wr => ∃ k : Nat, k ≤ m ∧ i = .int .i64 k ∧ (∀ j, j < k → besP (ptAt l j) (ptAt l (j + 1)) = true) ∧ Below w.heap.size w wr) (fun i _ => m - (intOf i).toNat)
    case atStart => exact ⟨0, Nat.zero_le _, rfl, fun j hj => absurd hj (Nat.not_lt_zero _), J⟩
    case round =>
      obtain ⟨k, hk, rfl, hst, hnx⟩ := hrel
      have HST : Hid (∀ j, j < k → besP (ptAt l j) (ptAt l (j + 1)) = true) := hst
      clear hst
      by_cases hlt : k < m
      case neg =>
        obtain rfl : k = m := by omega
        have e1 := E HST.out
        clear E
        go_wp2_with fail
        go_ret
        exact ⟨by rw [e1.out]; rfl, hnx⟩
      case pos =>
        have i3 : (0 : Int) ≤ (k : Int) := Int.natCast_nonneg _
        have i4 : (k : Int) < (m : Int) := by omega
        have i5 : (k : Int) < (m : Int) + 1 := by omega
        obtain ⟨d0, d1⟩ := HC.out (k + 1) (by omega)
        have c0 := (hnx.cell (p := ⟨g, off + (k + 1) * 2, none⟩) hg).trans d0
        have c1' := (hnx.cell (p := ⟨g, off + (k + 1) * 2 + 1, none⟩) hg).trans d1
        rw [show off + (k + 1) * 2 = off + 2 + k * 2 by omega] at c0 c1'
        obtain ⟨d2, d3⟩ := HC.out k (by omega)
        obtain ⟨V, hV, BV, T⟩ : ∃ V, V = wr.alloc (.cells #[.int .i64 (ptAt l (k+1)).1, .int .i64 (ptAt l (k+1)).2] 42) ∧ Below wr.heap.size wr V ∧ V.heap[wr.heap.size]? = some (.cells #[.int .i64 (ptAt l (k+1)).1, .int .i64 (ptAt l (k+1)).2] 42) := ⟨_, rfl, (by repeat (first | exact bw_refl _ | assumption | apply bw_drewN | apply bw_drew | apply bw_alloc | refine bw_set ?_ (by simp) _)), heap_new _ _⟩
        have hnV := bw_trans hnx BV
        have q0 := cell_regrown ((hnV.cell (p := ⟨g, off + k * 2, none⟩) hg).trans d2)
        have q1 := cell_regrown ((hnV.cell (p := ⟨g, off + k * 2 + 1, none⟩) hg).trans d3)
        have hS := fun V => square_ok (ptAt l k) (ptAt l (k + 1)) V (HOK.out k (by omega)) (HOK.out (k + 1) (by omega))
        have hbe : besP (ptAt l k) (ptAt l (k + 1)) = decide (dt (ptAt l k).1 (ptAt l k).2 (ptAt l (k + 1)).1 (ptAt l (k + 1)).2 (ptAt l (k + 1)).1 (ptAt l (k + 1)).2 = 1) := rfl
        have X2' : ∃ z, (besP (ptAt l k) (ptAt l (k + 1)) = decide (z = 1)) ∧ Hid (∀ V, Calls Tryd.prog 53 #[.agg #[.int .i64 (ptAt l k).1, .int .i64 (ptAt l k).2], .agg #[.int .i64 (ptAt l (k+1)).1, .int .i64 (ptAt l (k+1)).2]] V fun e w' => e = .returned (.int .i64 z) ∧ Below V.heap.size V w') := ⟨_, hbe, hS⟩
        clear d0 d1 d2 d3 hS hbe
        obtain ⟨z, hz, X2⟩ := X2'
        obtain ⟨t0, t1⟩ := reg_2 T
        go_upto_region 6 with fail
        rw [← hV]
        clear hV c0 c1'
        by_cases hd : z = 1
        case neg =>
          have e1 : Hid (pathP l = false) := pathP_step (i := k) (by rw [HL.out]; omega) (by rw [hz]; exact decide_eq_false hd)
          have z1 : (z != 1) = true := by simpa using hd
          have z2 : (z == 1) = false := by simpa using hd
          clear hz hd E
          refine wp_region_quiet_below (by kernel_rfl) (by kernel_rfl) ?_
          repeat (first | go_big_quiet_step (first | (go_at_call 53; with_reducible exact Calls.regrown_of (X2.out _))))
          refine wpQuiet_nil ?_
          intro _ hw'
          obtain ⟨⟨dq, osq⟩, hw''⟩ := hw'
          subst hw''
          have J := below_regrown V dq osq
          generalize grow (redrawn V dq) osq = v2 at J ⊢
          go_wp2_with fail
          go_ret
          exact ⟨by rw [e1.out]; rfl, bw_trans hnV J⟩
        case pos =>
          have HS1 : Hid (besP (ptAt l k) (ptAt l (k + 1)) = true) := by change _ = _; rw [hz]; exact decide_eq_true hd
          subst hd
          clear hz E
          refine wp_region_quiet_below (by kernel_rfl) (by kernel_rfl) ?_
          repeat (first | go_big_quiet_step (first | (go_at_call 53; with_reducible exact Calls.regrown_of (X2.out _))))
          refine wpQuiet_nil ?_
          intro _ hw'
          obtain ⟨⟨dq, osq⟩, hw''⟩ := hw'
          subst hw''
          have J := below_regrown V dq osq
          generalize grow (redrawn V dq) osq = v2 at J ⊢
          go_wp2_with fail
          go_roundw
          case rel => exact ⟨k + 1, by omega, by simp, fun j hj => by rcases Nat.lt_or_ge j k with h | h; exact HST.out j h; obtain rfl : j = k := (by omega); exact HS1.out, bw_trans hnV J⟩
          case measure => simp [intOf]; omega
end Go.Proofs.YtfdnadiliedikaaDoor
namespace Go.Proofs.YtfdnadiliedikaaDoor
open Go.RowKit Go.Sort

theorem besP_cmp {a b : P2} (h : besP a b = true) : cmpI b.1 a.1 = b.1 - a.1 ∧ cmpI b.2 a.2 = b.2 - a.2 := by
  have h := besP_unit h
  unfold unitP dP at h
  simp only [Prod.mk.injEq] at h
  unfold cmpI
  constructor <;> split <;> (try split) <;> omega
set_option maxRecDepth 100000 in
set_option maxHeartbeats 4000000 in
theorem codeTurns_any (a : Option Addr) (np cp : Nat) (l : List P2) (w : World) (hn : np ≤ 1048576) (hcp : np ≤ cp) (hP : Pts w.heap.size w a np l) :
    Calls Tryd.prog 15 #[.slice a np cp] w fun e W' => ∃ v, e = .returned v ∧ AnsT w.heap.size W'.heap.size W' v (turnsV l) ∧ Below w.heap.size w W' := by
  obtain ⟨i0, hi0, hz0, hz1, hz2⟩ := info_parts Tryd.infoPt
  have h1 := isPath_any a np cp l w hcp hP hn
  cases hp : pathP l
  · have e1 : Hid (turnsV l = []) := by change _ = _; unfold turnsV; rw [hp]; rfl
    rw [hp] at h1
    go_enter Tryd.func15, Tryd.ntmps15
    go_wp2_with fail
    refine h1.mono ?_
    rintro e w1 ⟨rfl, J⟩
    go_wp2_with fail
    go_ret
    exact ⟨_, rfl, .inl ⟨e1.out, _, _, rfl⟩, J⟩
  rw [hp] at h1
  have hTV : Hid (turnsV l = turnsL l) := by change _ = _; unfold turnsV; rw [hp]; rfl
  obtain ⟨hlen, hP⟩ := hP
  have HL : Hid (l.length = np) := hlen
  obtain ⟨⟨hl1, hl2⟩, hok, hbs⟩ := pathP_iff.1 hp
  have HBS : Hid (∀ i, i + 1 < np → besP (ptAt l i) (ptAt l (i + 1)) = true) := fun i hi => hbs i (by rw [hlen]; exact hi)
  rw [hlen] at hl1 hl2
  rcases hP with h0 | ⟨g, off, rfl, hg, hc⟩
  · omega
  have HC : Hid (∀ j, j < np → w.cell? ⟨g, off + j * 2, none⟩ = some (.int .i64 (ptAt l j).1) ∧ w.cell? ⟨g, off + j * 2 + 1, none⟩ = some (.int .i64 (ptAt l j).2)) := hc
  clear hlen hc hok hbs hp
  go_enter Tryd.func15, Tryd.ntmps15
  go_wp2_with fail
  refine h1.mono ?_
  rintro e w1 ⟨rfl, J1⟩
  go_wp2_with fail
  go_loopw [3, 11] (fun o i wr => ∃ k : Nat, k ≤ np ∧ i = .int .i64 k ∧ wr.ownsRow w.heap.size 42 2 o (turnsK l k).length (ptCells (turnsK l k)) ∧ Below w.heap.size w wr) (fun _ i _ => np - (intOf i).toNat)
  case atStart => exact ⟨0, Nat.zero_le _, rfl, ⟨rfl, .inl ⟨rfl, rfl⟩⟩, J1⟩
  case round =>
    obtain ⟨k, hk, rfl, hown, hnx⟩ := hrel
    have hzz := hnx.size
    have hm := turnsK_len l k
    by_cases hlt : k < np
    case neg =>
      obtain rfl : k = np := by omega
      have e1 : Hid (turnsK l k = turnsV l) := by change _ = _; rw [hTV.out]; unfold turnsL; rw [HL.out]
      rw [e1.out] at hown hm
      go_wp2_with fail
      go_ret
      exact ⟨_, rfl, AnsT.of_own hown rfl, hnx⟩
    case pos =>
      obtain ⟨bx, hbx⟩ : ∃ bx, bx = (ptAt l k).1 := ⟨_, rfl⟩
      obtain ⟨b_y, hby⟩ : ∃ b_y, b_y = (ptAt l k).2 := ⟨_, rfl⟩
      obtain ⟨n, hn'⟩ : ∃ n, n = (turnsK l k).length := ⟨_, rfl⟩
      have HN : Hid ((turnsK l k).length = n) := hn'.symm
      have HB : Hid (ptAt l k = (bx, b_y)) := by change _ = _; rw [hbx, hby]
      rw [← hn'] at hown hm
      clear hn'
      have i3 : (0 : Int) ≤ (k : Int) := Int.natCast_nonneg _
      have i4 : (k : Int) < (np : Int) := by omega
      obtain ⟨d0, d1⟩ := HC.out k hlt
      rw [HB.out] at d0 d1
      simp only at d0 d1
      have c0 := (hnx.cell (p := ⟨g, off + k * 2, none⟩) hg).trans d0
      have c1' := (hnx.cell (p := ⟨g, off + k * 2 + 1, none⟩) hg).trans d1
      obtain ⟨V, hV, BV, T⟩ : ∃ V, V = wr.alloc (.cells #[.int .i64 bx, .int .i64 b_y] 42) ∧ Below wr.heap.size wr V ∧ V.heap[wr.heap.size]? = some (.cells #[.int .i64 bx, .int .i64 b_y] 42) := ⟨_, rfl, (by repeat (first | exact bw_refl _ | assumption | apply bw_drewN | apply bw_drew | apply bw_alloc | refine bw_set ?_ (by simp) _)), heap_new _ _⟩
      have hnV := bw_trans hnx BV
      obtain ⟨t0, t1⟩ := reg_2 T
      have j6 : IntKind.i64.wrap ((np : Int) - 1) = (np : Int) - 1 := wrap_small (by omega) (by omega)
      clear d0 d1 hbx hby
      by_cases hk0 : k = 0
      case pos =>
        have TT : isT l k = true := by unfold isT; rw [decide_eq_true hk0]; rfl
        subst hk0
        simp only [Nat.zero_mul, Nat.add_zero] at c0 c1'
        have hsn : Hid ((turnsK l (0 + 1)).length = n + 1 ∧ ptCells (turnsK l (0 + 1)) = ptCells (turnsK l 0) ++ [.int .i64 bx, .int .i64 b_y]) := by
          change _ ∧ _
          rw [turnsK_succ, TT, if_pos rfl, ptCells_snoc, HB.out, List.length_append, HN.out]
          exact ⟨rfl, rfl⟩
        clear TT
        go_upto_region 7 with fail
        rw [← hV]
        clear hV
        refine wp_region_quiet_below (by kernel_rfl) (by kernel_rfl) ?_
        repeat (first | go_big_quiet_step (fail))
        refine wpQuiet_nil ?_
        intro _ hw'
        obtain ⟨⟨dq, osq⟩, hw''⟩ := hw'
        subst hw''
        have J := below_regrown V dq osq
        generalize grow (redrawn V dq) osq = v1 at J ⊢
        have hown7 := hown.kept (w' := v1) (row := none) ⟨(bw_trans BV J).os, (bw_trans BV J).tape, (bw_trans BV J).output, (bw_trans BV J).size, fun j hj _ => (bw_trans BV J).block j hj⟩ (Classical.em _)
        have hn7 := bw_trans hnV J
        have hz7 := hn7.size
        obtain ⟨p0, p1⟩ := blk_2 (keep J T)
        go_wp2_with (at_builtin; refine wpList_append_lies _ rfl _ _ _ rfl w.heap.size 42 i0 _ 2 16 Tryd.underlying23 hi0 hz0 hz1 hz2 rfl (by omega) _ _ _ rfl (hown7.alloc _) ⟨v1.heap.size, 0, none⟩ 1 1 [.int .i64 bx, .int .i64 b_y] rfl rfl (World.news_of_block (cs := #[.int .i64 bx, .int .i64 b_y]) (t := 42) (fr := (0, 0)) (heap_alloc_new v1 _)) (by simp [Value.oneCell']) (by omega) (by simp [maxLen]; omega) (by omega) (by simp; omega) (v1.heap.size + 1) (by simp) ?_; intro gg cap' w8 hown1 hgrow hat hlt1)
        go_roundw
        case rel => exact ⟨0 + 1, by omega, by simp, by rw [hsn.out.1, hsn.out.2]; exact hown1, (hn7.alloc hn7.size _).grown hgrow (by simp; omega) (fun j e => (hown7.lt j e).1)⟩
        case measure => simp [intOf]; omega
      case neg =>
        have j4 : ((k : Int) == 0) = false := by simp; omega
        have j5 : ((k : Int) = 0) = False := by simp; omega
        by_cases hlast : k + 1 = np
        case pos =>
          have TT : isT l k = true := isT_last (by rw [HL.out]; exact hlast)
          have j7 : ((k : Int) == (np : Int) - 1) = true := by simp; omega
          have j8 : ((k : Int) = (np : Int) - 1) = True := by simp; omega
          have hsn : Hid ((turnsK l (k + 1)).length = n + 1 ∧ ptCells (turnsK l (k + 1)) = ptCells (turnsK l k) ++ [.int .i64 bx, .int .i64 b_y]) := by
            change _ ∧ _
            rw [turnsK_succ, TT, if_pos rfl, ptCells_snoc, HB.out, List.length_append, HN.out]
            exact ⟨rfl, rfl⟩
          clear TT
          go_upto_region 7 with fail
          rw [← hV]
          clear hV
          refine wp_region_quiet_below (by kernel_rfl) (by kernel_rfl) ?_
          repeat (first | go_big_quiet_step (fail))
          refine wpQuiet_nil ?_
          intro _ hw'
          obtain ⟨⟨dq, osq⟩, hw''⟩ := hw'
          subst hw''
          have J := below_regrown V dq osq
          generalize grow (redrawn V dq) osq = v1 at J ⊢
          have hown7 := hown.kept (w' := v1) (row := none) ⟨(bw_trans BV J).os, (bw_trans BV J).tape, (bw_trans BV J).output, (bw_trans BV J).size, fun j hj _ => (bw_trans BV J).block j hj⟩ (Classical.em _)
          have hn7 := bw_trans hnV J
          have hz7 := hn7.size
          obtain ⟨p0, p1⟩ := blk_2 (keep J T)
          go_wp2_with (at_builtin; refine wpList_append_lies _ rfl _ _ _ rfl w.heap.size 42 i0 _ 2 16 Tryd.underlying23 hi0 hz0 hz1 hz2 rfl (by omega) _ _ _ rfl (hown7.alloc _) ⟨v1.heap.size, 0, none⟩ 1 1 [.int .i64 bx, .int .i64 b_y] rfl rfl (World.news_of_block (cs := #[.int .i64 bx, .int .i64 b_y]) (t := 42) (fr := (0, 0)) (heap_alloc_new v1 _)) (by simp [Value.oneCell']) (by omega) (by simp [maxLen]; omega) (by omega) (by simp; omega) (v1.heap.size + 1) (by simp) ?_; intro gg cap' w8 hown1 hgrow hat hlt1)
          go_roundw
          case rel => exact ⟨k + 1, by omega, by simp, by rw [hsn.out.1, hsn.out.2]; exact hown1, (hn7.alloc hn7.size _).grown hgrow (by simp; omega) (fun j e => (hown7.lt j e).1)⟩
          case measure => simp [intOf]; omega
        case neg =>
          have j7 : ((k : Int) == (np : Int) - 1) = false := by simp; omega
          have j8 : ((k : Int) = (np : Int) - 1) = False := by simp; omega
          obtain ⟨q, hq⟩ : ∃ q, k = q + 1 := ⟨k - 1, by omega⟩
          have TM := isT_mid (l := l) (q := q) (by rw [HL.out]; omega)
          have w1 : IntKind.i64.wrap ((k : Int) - 1) = (q : Int) := by rw [hq]; rw [show ((q + 1 : Nat) : Int) - 1 = (q : Int) by omega]; exact wrap_small (by omega) (by omega)
          have w2 : (0 : Int) ≤ (q : Int) := Int.natCast_nonneg _
          have w3 : (q : Int) < (np : Int) := by omega
          have w4 : (k : Int) + 1 < (np : Int) := by omega
          have w5 : ((k : Int) - 1) = (q : Int) := by omega
          obtain ⟨d0, d1⟩ := HC.out q (by omega)
          obtain ⟨d2, d3⟩ := HC.out (k + 1) (by omega)
          have b1 := besP_cmp (HBS.out q (by omega))
          have b2 := besP_cmp (HBS.out k (by omega))
          rw [← hq] at b1 TM
          rw [show q + 2 = k + 1 by omega] at TM
          have X1 := fun V => step_any (ptAt l q) (ptAt l k) V
          have X2 := fun V => step_any (ptAt l k) (ptAt l (k + 1)) V
          simp only [b1.1, b1.2] at X1
          simp only [b2.1, b2.2] at X2
          rw [HB.out] at X1 X2 TM
          have r0 := cell_regrown ((hnV.cell (p := ⟨g, off + q * 2, none⟩) hg).trans d0)
          have r1 := cell_regrown ((hnV.cell (p := ⟨g, off + q * 2 + 1, none⟩) hg).trans d1)
          have s0 := cell_regrown ((hnV.cell (p := ⟨g, off + (k + 1) * 2, none⟩) hg).trans d2)
          have s1 := cell_regrown ((hnV.cell (p := ⟨g, off + (k + 1) * 2 + 1, none⟩) hg).trans d3)
          clear d0 d1 d2 d3 b1 b2 hq
          simp only at X1 X2 TM
          generalize bx - (ptAt l q).1 = u1 at X1 TM
          generalize b_y - (ptAt l q).2 = u2 at X1 TM
          generalize (ptAt l (k + 1)).1 - bx = v3 at X2 TM
          generalize (ptAt l (k + 1)).2 - b_y = v4 at X2 TM
          replace X1 : Hid _ := X1
          replace X2 : Hid _ := X2
          by_cases hx : v3 = u1
          case neg =>
            have TT : isT l k = true := by rw [TM]; simp [hx]
            have x1 : (u1 == v3) = false := by simpa using Ne.symm hx
            have x2 : (u1 = v3) = False := by simpa using Ne.symm hx
            have x3 : (u1 != v3) = true := by unfold bne; rw [x1]; rfl
            clear TM hx
            have hsn : Hid ((turnsK l (k + 1)).length = n + 1 ∧ ptCells (turnsK l (k + 1)) = ptCells (turnsK l k) ++ [.int .i64 bx, .int .i64 b_y]) := by
              change _ ∧ _
              rw [turnsK_succ, TT, if_pos rfl, ptCells_snoc, HB.out, List.length_append, HN.out]
              exact ⟨rfl, rfl⟩
            clear TT
            go_upto_region 7 with fail
            rw [← hV]
            clear hV
            refine wp_region_quiet_below (by kernel_rfl) (by kernel_rfl) ?_
            repeat (first | go_big_quiet_step (first | (go_at_call 41; with_reducible exact Calls.regrown_of (X1.out _)) | (go_at_call 41; with_reducible exact Calls.regrown_of (X2.out _))))
            refine wpQuiet_nil ?_
            intro _ hw'
            obtain ⟨⟨dq, osq⟩, hw''⟩ := hw'
            subst hw''
            have J := below_regrown V dq osq
            generalize grow (redrawn V dq) osq = v1 at J ⊢
            have hown7 := hown.kept (w' := v1) (row := none) ⟨(bw_trans BV J).os, (bw_trans BV J).tape, (bw_trans BV J).output, (bw_trans BV J).size, fun j hj _ => (bw_trans BV J).block j hj⟩ (Classical.em _)
            have hn7 := bw_trans hnV J
            have hz7 := hn7.size
            obtain ⟨p0, p1⟩ := blk_2 (keep J T)
            go_wp2_with (at_builtin; refine wpList_append_lies _ rfl _ _ _ rfl w.heap.size 42 i0 _ 2 16 Tryd.underlying23 hi0 hz0 hz1 hz2 rfl (by omega) _ _ _ rfl (hown7.alloc _) ⟨v1.heap.size, 0, none⟩ 1 1 [.int .i64 bx, .int .i64 b_y] rfl rfl (World.news_of_block (cs := #[.int .i64 bx, .int .i64 b_y]) (t := 42) (fr := (0, 0)) (heap_alloc_new v1 _)) (by simp [Value.oneCell']) (by omega) (by simp [maxLen]; omega) (by omega) (by simp; omega) (v1.heap.size + 1) (by simp) ?_; intro gg cap' w8 hown1 hgrow hat hlt1)
            go_roundw
            case rel => exact ⟨k + 1, by omega, by simp, by rw [hsn.out.1, hsn.out.2]; exact hown1, (hn7.alloc hn7.size _).grown hgrow (by simp; omega) (fun j e => (hown7.lt j e).1)⟩
            case measure => simp [intOf]; omega
          case pos =>
            subst hx
            by_cases hy : v4 = u2
            case neg =>
              have TT : isT l k = true := by rw [TM]; simp [hy]
              have x1 : (u2 == v4) = false := by simpa using Ne.symm hy
              have x2 : (u2 = v4) = False := by simpa using Ne.symm hy
              have x3 : (u2 != v4) = true := by unfold bne; rw [x1]; rfl
              clear TM hy
              have hsn : Hid ((turnsK l (k + 1)).length = n + 1 ∧ ptCells (turnsK l (k + 1)) = ptCells (turnsK l k) ++ [.int .i64 bx, .int .i64 b_y]) := by
                change _ ∧ _
                rw [turnsK_succ, TT, if_pos rfl, ptCells_snoc, HB.out, List.length_append, HN.out]
                exact ⟨rfl, rfl⟩
              clear TT
              go_upto_region 7 with fail
              rw [← hV]
              clear hV
              refine wp_region_quiet_below (by kernel_rfl) (by kernel_rfl) ?_
              repeat (first | go_big_quiet_step (first | (go_at_call 41; with_reducible exact Calls.regrown_of (X1.out _)) | (go_at_call 41; with_reducible exact Calls.regrown_of (X2.out _))))
              refine wpQuiet_nil ?_
              intro _ hw'
              obtain ⟨⟨dq, osq⟩, hw''⟩ := hw'
              subst hw''
              have J := below_regrown V dq osq
              generalize grow (redrawn V dq) osq = v1 at J ⊢
              have hown7 := hown.kept (w' := v1) (row := none) ⟨(bw_trans BV J).os, (bw_trans BV J).tape, (bw_trans BV J).output, (bw_trans BV J).size, fun j hj _ => (bw_trans BV J).block j hj⟩ (Classical.em _)
              have hn7 := bw_trans hnV J
              have hz7 := hn7.size
              obtain ⟨p0, p1⟩ := blk_2 (keep J T)
              go_wp2_with (at_builtin; refine wpList_append_lies _ rfl _ _ _ rfl w.heap.size 42 i0 _ 2 16 Tryd.underlying23 hi0 hz0 hz1 hz2 rfl (by omega) _ _ _ rfl (hown7.alloc _) ⟨v1.heap.size, 0, none⟩ 1 1 [.int .i64 bx, .int .i64 b_y] rfl rfl (World.news_of_block (cs := #[.int .i64 bx, .int .i64 b_y]) (t := 42) (fr := (0, 0)) (heap_alloc_new v1 _)) (by simp [Value.oneCell']) (by omega) (by simp [maxLen]; omega) (by omega) (by simp; omega) (v1.heap.size + 1) (by simp) ?_; intro gg cap' w8 hown1 hgrow hat hlt1)
              go_roundw
              case rel => exact ⟨k + 1, by omega, by simp, by rw [hsn.out.1, hsn.out.2]; exact hown1, (hn7.alloc hn7.size _).grown hgrow (by simp; omega) (fun j e => (hown7.lt j e).1)⟩
              case measure => simp [intOf]; omega
            case pos =>
              subst hy
              have TT : isT l k = false := by rw [TM]; simp
              clear TM
              have hsn : Hid (turnsK l (k + 1) = turnsK l k) := by
                change _ = _
                rw [turnsK_succ, TT, if_neg (by simp), List.append_nil]
              clear TT
              go_upto_region 7 with fail
              rw [← hV]
              clear hV
              refine wp_region_quiet_below (by kernel_rfl) (by kernel_rfl) ?_
              repeat (first | go_big_quiet_step (first | (go_at_call 41; with_reducible exact Calls.regrown_of (X1.out _)) | (go_at_call 41; with_reducible exact Calls.regrown_of (X2.out _))))
              refine wpQuiet_nil ?_
              intro _ hw'
              obtain ⟨⟨dq, osq⟩, hw''⟩ := hw'
              subst hw''
              have J := below_regrown V dq osq
              generalize grow (redrawn V dq) osq = v1 at J ⊢
              have hown7 := hown.kept (w' := v1) (row := none) ⟨(bw_trans BV J).os, (bw_trans BV J).tape, (bw_trans BV J).output, (bw_trans BV J).size, fun j hj _ => (bw_trans BV J).block j hj⟩ (Classical.em _)
              have hn7 := bw_trans hnV J
              have hz7 := hn7.size
              obtain ⟨p0, p1⟩ := blk_2 (keep J T)
              clear p0 p1
              go_wp2_with fail
              go_roundw
              case rel => exact ⟨k + 1, by omega, by simp, by rw [hsn.out, HN.out]; exact hown7, hn7⟩
              case measure => simp [intOf]; omega
end Go.Proofs.YtfdnadiliedikaaDoor
namespace Go.Proofs.YtfdnadiliedikaaDoor
open Go.RowKit Go.Sort Go.Conc

theorem cells_app' (a b : List UInt8) : Lib.byteCells (a ++ b) = Lib.byteCells a ++ Lib.byteCells b := by unfold Lib.byteCells; rw [List.map_append]
theorem cells_len' (a : List UInt8) : (Lib.byteCells a).length = a.length := by unfold Lib.byteCells; rw [List.length_map]
theorem Tryd.infoS2 : (Tryd.prog.info? 9).map (fun i => (i.zero, i.size, i.bytes)) = some (some (.string ⟨#[]⟩), 1, 16) := by kernel_rfl
/-- The lines of turns, up to a place. -/
def lnsB (t : List P2) (k : Nat) : List ByteArray := (List.range k).map fun i => lnB i (ptAt t i)
theorem lnsB_succ (t : List P2) (k : Nat) : lnsB t (k + 1) = lnsB t k ++ [lnB k (ptAt t k)] := by unfold lnsB; rw [List.range_succ, List.map_append]; rfl
theorem lnsB_len (t : List P2) (k : Nat) : (lnsB t k).length = k := by simp [lnsB]
theorem lnsB_at {t : List P2} {n k : Nat} (h : k < n) : (lnsB t n)[k]? = some (lnB k (ptAt t k)) := by simp [lnsB, h]
theorem cdL_take {t : List P2} {k : Nat} (h : k < t.length) : cdL (t.take (k + 1)) = cdL (t.take k) ++ lnL k (ptAt t k) := by
  rw [take_snoc h, cdL_snoc, List.length_take, Nat.min_eq_left (by omega)]
theorem turnsV_ok (l : List P2) : ∀ p ∈ turnsV l, okP p = true := by
  unfold turnsV
  split
  · rename_i h; exact turns_okP h
  · intro p hp; cases hp
theorem cdV_eq (l : List P2) : cdV l = cdB (turnsV l) := by
  unfold cdV turnsV
  split <;> rfl
theorem builder_only {T e : TypeId} {B b c : Nat} {bs : List Value} {W W' : World} (h : Lib.IsBuilderF T e B b bs W) (O : Only c W W') (hc : ∀ cs t fz, W.heap[c]? ≠ some (.cells cs t fz)) : Lib.IsBuilderF T e B b bs W' := by
  have key : ∀ p, Lib.BuilderAtF T e B b p bs W → Lib.BuilderAtF T e B b p bs W' := fun p h => by
    obtain ⟨hB, v, hb, hown, hne⟩ := h
    have hbc : b ≠ c := fun e => hc _ _ _ (by rw [← e]; exact hb)
    refine ⟨hB, v, (O.block b hbc (Array.getElem?_eq_some_iff.1 hb).1).trans hb, ?_, hne⟩
    refine ⟨hown.1, hown.2.imp id ?_⟩
    rintro ⟨g, cap, cur, fz, rfl, hbg, hg, r⟩
    exact ⟨g, cap, cur, fz, rfl, hbg, (O.block g (fun e => hc _ _ _ (by rw [← e]; exact hg)) (Array.getElem?_eq_some_iff.1 hg).1).trans hg, r⟩
  exact h.imp (key _) (key _)
set_option maxRecDepth 100000 in
set_option maxHeartbeats 4000000 in
theorem codeWrite_any (a : Option Addr) (np cp : Nat) (l : List P2) (w : World) (hn : np ≤ 1048576) (hcp : np ≤ cp) (hP : Pts w.heap.size w a np l) (hT : Tab w) :
    Calls Tryd.prog 11 #[.slice a np cp] w fun e w' => e = .returned (.string (cdV l)) ∧ Below w.heap.size w w' := by
  obtain ⟨i0, hi0, hz0, hz1, hz2⟩ := info_parts Tryd.infoS2
  have hC := codeTurns_any a np cp l w hn hcp hP
  have HOK := turnsV_ok l
  have h400 := turnsV_len l
  have HV : Hid (cdV l = cdB (turnsV l)) := cdV_eq l
  generalize turnsV l = T at *
  refine calls_of_wpN Tryd.func11 rfl ?_
  simp only [Tryd.f11, List.size_toArray, List.length_cons, List.length_nil, Nat.reduceAdd, Nat.reduceSub, Array.replicate_succ, Array.replicate_zero, List.push_toArray, List.append_toArray, List.nil_append, List.cons_append]
  refine wpN_seq (wpN_of ?_)
  go_wp2_with fail
  refine wpN_seq (wpN_of ?_)
  go_wp2_with fail
  refine hC.mono ?_
  clear hC hP
  rintro e w1 ⟨v, rfl, hA, J1⟩
  obtain ⟨a1, c1, rfl, hP1⟩ := hA.own
  obtain ⟨m, hm⟩ : ∃ m, T.length = m := ⟨_, rfl⟩
  have HL : Hid (T.length = m) := hm
  rw [hm] at hP1 h400
  rw [hm]
  clear hm hA
  have hT1 := hT.below J1
  have z1 := J1.size
  go_wp2_with fail
  refine wpN_seq (wpN_of ?_)
  go_wp2_with (at_make; refine wpList_make_own _ rfl _ _ 46 rfl w1.heap.size 9 i0 _ 1 Tryd.underlying46 hi0 hz0 hz1 .i64 .i64 _ m rfl rfl rfl (by rw [hz2]; omega) (by simp [maxLen]; omega) (Nat.le_refl _) ?_; intro w2 hown hgr)
  have hB2 : Below w1.heap.size w1 w2 := (Below.refl _ _).grown hgr (Nat.le_refl _) (fun k e => by cases e)
  have z2 := hgr.size
  have zown := (hown.lt _ rfl).2
  clear hgr
  refine wpN_seq (wpN_seq (wpN_of ?_))
  go_wp2_with fail
  refine wpN_of ?_
  go_wp2_with fail
  go_loopw [4, 16] (fun s i wr => ∃ k : Nat, k ≤ m ∧ i = .int .i64 k ∧ s = .slice (some ⟨w1.heap.size, 0, none⟩) k m ∧ wr.ownsRow w1.heap.size 9 1 (.slice (some ⟨w1.heap.size, 0, none⟩) k m) k ((lnsB T k).map Value.string) ∧ Below w1.heap.size w1 wr) (fun _ i _ => m - (intOf i).toNat)
  case atStart => exact ⟨0, Nat.zero_le _, rfl, rfl, hown, hB2⟩
  case round =>
    obtain ⟨k, hk, rfl, rfl, hown, hnx⟩ := hrel
    have zr := hnx.size
    by_cases hlt : k < m
    case pos =>
      rcases hP1.2 with h0 | ⟨b, off, rfl, hbl, hcs⟩
      · omega
      obtain ⟨c0, c1⟩ := hcs k hlt
      have d0 := (hnx.cell (p := ⟨b, off + k * 2, none⟩) hbl).trans c0
      have d1 := (hnx.cell (p := ⟨b, off + k * 2 + 1, none⟩) hbl).trans c1
      have hpk : okP (ptAt T k) = true := HOK _ (by rw [ptAt_lt (by rw [HL.out]; exact hlt)]; exact List.getElem_mem _)
      have hsn : Hid ((lnsB T (k + 1)).map Value.string = (lnsB T k).map Value.string ++ [.string (lnB k (ptAt T k))]) := by
        change _ = _; rw [lnsB_succ, List.map_append]; rfl
      have j0 : (0 : Int) ≤ (k : Int) := Int.natCast_nonneg _
      have j1 : (k : Int) < (m : Int) := by omega
      clear hcs c0 c1
      obtain ⟨V, hV, BV, TV⟩ : ∃ V, V = wr.alloc (.cells #[.int .i64 (ptAt T k).1, .int .i64 (ptAt T k).2] 42) ∧ Below wr.heap.size wr V ∧ V.heap[wr.heap.size]? = some (.cells #[.int .i64 (ptAt T k).1, .int .i64 (ptAt T k).2] 42) := ⟨_, rfl, (by repeat (first | exact bw_refl _ | assumption | apply bw_drewN | apply bw_drew | apply bw_alloc | refine bw_set ?_ (by simp) _)), heap_new _ _⟩
      have hownV : V.ownsRow w1.heap.size 9 1 (.slice (some ⟨w1.heap.size, 0, none⟩) k m) k ((lnsB T k).map Value.string) := by rw [hV]; exact hown.alloc _
      have hnV := bw_trans hnx BV
      go_upto_region 6 with fail
      rw [← hV]
      clear hV d0 d1 hown
      obtain ⟨t0, t1⟩ := blk_2 TV
      go_wp2_with fail
      refine (codeLine_ok k _ hpk _ (hT1.below hnV)).mono ?_
      rintro e w3 ⟨rfl, J⟩
      have hK2 := bw_trans hnV J
      have hown2 : w3.ownsRow w1.heap.size 9 1 (.slice (some ⟨w1.heap.size, 0, none⟩) k m) k ((lnsB T k).map Value.string) := hownV.kept (row := none) ⟨J.os, J.tape, J.output, J.size, fun j hj _ => J.block j hj⟩ (Classical.em _)
      have hz2' := hK2.size
      clear t0 t1
      go_wp2_with (at_builtin; refine wpList_append_fits _ rfl _ _ 46 rfl w1.heap.size 9 i0 1 Tryd.underlying46 hi0 hz1 w1.heap.size k m _ rfl (hown2.alloc _) ⟨w3.heap.size, 0, none⟩ 1 1 [.string (lnB k (ptAt T k))] rfl rfl (World.news_of_block (cs := #[.string (lnB k (ptAt T k))]) (t := 9) (fr := (0, 0)) (heap_alloc_new w3 _)) (by simp [Value.oneCell']) (by omega) ?_; intro w4 hown3 hgr3)
      go_roundw
      case rel => exact ⟨k + 1, by omega, by simp, rfl, by rw [hsn.out]; exact hown3, (hK2.alloc hz2' _).grown hgr3 (by simp; omega) (fun j e => by have e' : w1.heap.size = j := Option.some.inj e; omega)⟩
      case measure => simp [intOf]; omega
    case neg =>
    obtain rfl : k = m := by omega
    go_wp2_with fail
    have Kr := bw_trans J1 hnx
    have hcells : ∀ j x, (lnsB T k)[j]? = some x → wr.cell? ⟨w1.heap.size, j, none⟩ = some (.string x) := fun j x hx => by
      have hj := (List.getElem?_eq_some_iff.1 hx).1
      rw [lnsB_len] at hj
      rw [hown.cellAt j (by omega), List.getElem?_map, hx]; rfl
    have hBB : Below wr.heap.size wr (wr.alloc (.cells #[.pointer none, .slice none 0 0] 50)) := (by repeat (first | exact bw_refl _ | assumption | apply bw_drewN | apply bw_drew | apply bw_alloc | refine bw_set ?_ (by simp) _))
    have hSR : StrRow (wr.alloc (.cells #[.pointer none, .slice none 0 0] 50)) (some ⟨w1.heap.size, 0, none⟩) k (lnsB T k) :=
      StrRow.below (W := wr) ⟨lnsB_len T k, .inr ⟨w1.heap.size, rfl, (hown.lt _ rfl).2, hcells⟩⟩ hBB
    have hnew := heap_new wr (.cells #[.pointer none, .slice none 0 0] 50)
    have hI : Lib.IsBuilderF 50 5 wr.heap.size wr.heap.size (Lib.byteCells (cdL (T.take 0))) (wr.alloc (.cells #[.pointer none, .slice none 0 0] 50)) :=
      .inl ⟨Nat.le_refl _, .slice none 0 0, hnew, World.ownsRowF_nil _ _ _ _, by simp [Value.ownBlock]⟩
    have hSent := sent_ok (some ⟨w1.heap.size, 0, none⟩) k k (lnsB T k) _ hSR (by omega)
    have hsz0 : (wr.alloc (.cells #[.pointer none, .slice none 0 0] 50)).heap.size = wr.heap.size + 1 := by simp
    clear hSR hcells hnew
    refine wpN_seq (wpN_of ?_)
    go_wp2_with fail
    obtain ⟨v1, hv1⟩ : ∃ v1, wr.alloc (.cells #[.pointer none, .slice none 0 0] 50) = v1 := ⟨_, rfl⟩
    rw [hv1] at hI hBB hSent hsz0 ⊢
    clear hv1
    refine wpN_seq (wpN_seq (wpN_of ?_))
    go_wp2_with fail
    refine hSent.mono ?_
    clear hSent
    rintro e w5 ⟨ch, rfl, hch, hcb, J5⟩
    go_wp2_with fail
    refine wpN_block ?_
    have hI5 := hI.below J5
    have hB5 := bw_trans hBB J5
    have hch0 : w5.heap[ch]? = some (.chan k (((lnsB T k).drop 0).map Value.string).toArray true k 0 false) := by rw [List.drop_zero]; exact hch
    clear hch hI
    refine wpN_loop k (fun j a' w' => ∃ (q : Nat) (x8 x30 x31 x32 x33 x34 : Value), q + j = k ∧ a' = { tmps := #[.slice a np cp, undef, .string ⟨#[]⟩, .slice a1 k c1, .slice (some ⟨w1.heap.size, 0, none⟩) k k, u5, u6, .pointer (some ⟨wr.heap.size, 0, none⟩), x8, .slice a np cp, .slice a1 k c1, .slice a1 k c1, .int .i64 k, .slice (some ⟨w1.heap.size, 0, none⟩) 0 k, .slice a1 k c1, .int .i64 k, .int .i64 k, .bool false, u18, u19, u20, u21, u22, u23, u24, u25, u26, u27, .slice (some ⟨w1.heap.size, 0, none⟩) k k, .chan (some ch), x30, x31, x32, x33, x34, undef], defers := [] } ∧ w'.heap[ch]? = some (.chan k (((lnsB T k).drop q).map Value.string).toArray true k q false) ∧ Lib.IsBuilderF 50 5 wr.heap.size wr.heap.size (Lib.byteCells (cdL (T.take q))) w' ∧ Below wr.heap.size wr w') ?_ ?_ ?_
    · exact ⟨0, _, _, _, _, _, _, by omega, rfl, hch0, hI5, hB5⟩
    · rintro j a' w' ⟨q, x8, x30, x31, x32, x33, x34, hq, rfl, hcw, hIw, hBw⟩
      have hqk : q < k := by omega
      have hdr : (lnsB T k).drop q = lnB q (ptAt T q) :: (lnsB T k).drop (q + 1) := by
        obtain ⟨h1, h2⟩ := List.getElem?_eq_some_iff.1 (lnsB_at (t := T) hqk)
        rw [← h2, ← List.drop_eq_getElem_cons h1]
      rw [hdr] at hcw
      clear hdr
      have zB := hBw.size
      have hpq : okP (ptAt T q) = true := HOK _ (by rw [ptAt_lt (by rw [HL.out]; exact hqk)]; exact List.getElem_mem _)
      have hlq : (lnB q (ptAt T q)).size = 9 := lnB_size hpq
      have hln : (cdL (T.take q)).length = 9 * q := by rw [cdL_len (fun p hp => HOK p (List.mem_of_mem_take hp)), List.length_take, HL.out, Nat.min_eq_left (by omega)]
      have htk : Hid (cdL (T.take (q + 1)) = cdL (T.take q) ++ lnL q (ptAt T q)) := cdL_take (by rw [HL.out]; exact hqk)
      obtain ⟨rs, hrs⟩ : ∃ rs, (lnsB T k).drop (q + 1) = rs := ⟨_, rfl⟩
      have HRS : Hid ((lnsB T k).drop (q + 1) = rs) := hrs
      rw [hrs] at hcw
      clear hrs
      refine wpN_seq (wpN_region ?_)
      simp only [List.size_toArray, List.length_cons, List.length_nil, Nat.reduceAdd, List.range, List.range.loop]
      refine wpM_recv (ok := true) (c := ch) (z := .string ⟨#[]⟩) rfl (by rfl) (by simp [go_sem, rcase]) hcw (by simp) ?_
      have hlc := blk_lt hcw
      have hext : ((lnB q (ptAt T q) :: rs).map Value.string).toArray.extract 1 ((lnB q (ptAt T q) :: rs).map Value.string).toArray.size = (rs.map Value.string).toArray := by simp [List.take_of_length_le]
      have hget : ((lnB q (ptAt T q) :: rs).map Value.string).toArray.getD 0 undef = .string (lnB q (ptAt T q)) := by simp
      rw [hext, hget]
      simp only [got, if_true]
      have OC : Only ch w' (w'.setChan ch k (rs.map Value.string).toArray true k (q + 1) false) := ⟨rfl, rfl, rfl, by simp [World.setChan], fun i hi _ => by simp only [World.setChan]; rw [Array.getElem?_setIfInBounds_ne (Ne.symm hi)]⟩
      have hV1 := heap_setChan w' ch k (rs.map Value.string).toArray true k (q + 1) false hlc
      have hV2 := below_setChan hBw (show wr.heap.size ≤ ch by omega) k (rs.map Value.string).toArray true k (q + 1) false
      have hV3 := builder_only hIw OC (by rw [hcw]; intro cs t fz e; cases e)
      generalize w'.setChan ch k (rs.map Value.string).toArray true k (q + 1) false = V at hV1 hV2 hV3 ⊢
      refine wpM_value (w' := V) (v := .bool true) rfl (by rfl) (by simp [go_sem, Act.put]) ?_
      refine wpM_done ?_
      simp only [Exit.then]
      have hW := shelf_Builder_WriteString wr.heap.size wr.heap.size (Lib.byteCells (cdL (T.take q))) (lnB q (ptAt T q)) V hV3 (by rw [cells_len']; omega) hV2.size
      refine wpN_of ?_
      go_wp2_with fail
      refine hW.mono ?_
      clear hW
      rintro e w9 ⟨rfl, hA9, J9, hO9⟩
      have hc9 : w9.heap[ch]? = some (.chan k (rs.map Value.string).toArray true k (q + 1) false) := hO9 ch _ hV1 (by simp; omega) (by rintro c fz e; cases e)
      have hI9 : Lib.IsBuilderF 50 5 wr.heap.size wr.heap.size (Lib.byteCells (cdL (T.take (q + 1)))) w9 := by rw [htk.out, cells_app']; exact .inr hA9
      go_wp2_with fail
      exact ⟨q + 1, .string (lnB q (ptAt T q)), .tuple #[.string (lnB q (ptAt T q)), .bool true], .bool true, .string (lnB q (ptAt T q)), .string (lnB q (ptAt T q)), _, by omega, rfl, by rw [HRS.out]; exact hc9, hI9, hV2.trans J9⟩
    · rintro a' w' ⟨q, x8, x30, x31, x32, x33, x34, hq, rfl, hcw, hIw, hBw⟩
      obtain rfl : q = k := by omega
      have hdr : (lnsB T q).drop q = [] := List.drop_eq_nil_of_le (by rw [lnsB_len]; exact Nat.le_refl _)
      rw [hdr] at hcw
      have hTT : T.take q = T := List.take_of_length_le (by rw [HL.out]; exact Nat.le_refl _)
      rw [hTT] at hIw
      clear hdr hTT
      have zB := hBw.size
      have hS := shelf_Builder_String_any_k wr.heap.size wr.heap.size (cdL T) w' hIw zB
      have e2 : Hid (cdV l = ⟨(cdL T).toArray⟩) := HV.out
      refine wpN_seq (wpN_region ?_)
      simp only [List.size_toArray, List.length_cons, List.length_nil, Nat.reduceAdd, List.range, List.range.loop]
      refine wpM_shut (ok := true) (c := ch) (z := .string ⟨#[]⟩) rfl (by rfl) (by simp [go_sem, rcase]) hcw ?_
      simp only [got, if_true]
      refine wpM_value (w' := w') (v := .bool false) rfl (by rfl) (by simp [go_sem, Act.put]) ?_
      refine wpM_done ?_
      simp only [Exit.then]
      refine wpN_of ?_
      go_wp2_with fail
      refine wpN_seq (wpN_of ?_)
      go_wp2_with fail
      refine hS.mono ?_
      rintro e w9 ⟨rfl, -, J9, -⟩
      go_wp2_with fail
      refine wpN_of ?_
      go_wp2_with fail
      refine bodyPost_ret (v := .string ⟨(cdL T).toArray⟩) (by simp [results, go_sem]) rfl ?_
      exact ⟨by rw [e2.out], bw_trans Kr (hBw.trans J9)⟩
end Go.Proofs.YtfdnadiliedikaaDoor
namespace Go.Proofs.YtfdnadiliedikaaDoor
open Go.RowKit Go.Sort

theorem cdB_step (X : ByteArray) (t : List P2) (k : Nat) (hk : k < t.length) (hX : X = cdB (t.take k)) :
    X ++ ByteArray.mk (cwL k).toArray ++ ByteArray.mk #[32, 88] ++ ByteArray.mk (Lib.decDigits (ptAt t k).1.toNat).toArray ++ ByteArray.mk #[32, 89] ++ ByteArray.mk (Lib.decDigits (ptAt t k).2.toNat).toArray ++ ByteArray.mk #[10] = cdB (t.take (k + 1)) := by
  subst hX
  rw [take_snoc hk, cdB_snoc, List.length_take, Nat.min_eq_left (by omega)]
  unfold lnB lnL
  apply ByteArray.ext
  simp
set_option maxRecDepth 100000 in
set_option maxHeartbeats 4000000 in
theorem sWrite_ok (a : Option Addr) (np cp : Nat) (l : List P2) (w : World) (hP : Pts w.heap.size w a np l) (hp : pathP l = true) :
    Calls Tryd.prog 35 #[.slice a np cp] w fun e w' => e = .returned (.string (cdB (turnsL l))) ∧ Below w.heap.size w w' := by
  have hC := sTurns_ok a np cp l w hP hp
  have HOK := turns_okP hp
  have h400 : (turnsL l).length ≤ 400 := by have := turnsL_le l; have := (pathP_parts hp).1.2; omega
  generalize turnsL l = T at *
  go_enter Tryd.func35, Tryd.ntmps35
  go_wp2_with fail
  refine hC.mono ?_
  clear hC hP
  rintro e w1 ⟨v, rfl, hA, J1⟩
  obtain ⟨a1, c1, rfl, hP1⟩ := hA.own
  obtain ⟨m, hm⟩ : ∃ m, T.length = m := ⟨_, rfl⟩
  have HL : Hid (T.length = m) := hm
  rw [hm] at hP1 h400
  rw [hm]
  clear hm hA
  have H0 : Hid (cdB (T.take 0) = ⟨#[]⟩) := rfl
  have HE : Hid (cdB (T.take m) = cdB T) := by change _ = _; rw [List.take_of_length_le (by rw [HL.out]; exact Nat.le_refl _)]
  go_wp2_with fail
  go_loopw [4, 5] (fun s i wr => ∃ k : Nat, k ≤ m ∧ i = .int .i64 k ∧ s = .string (cdB (T.take k)) ∧ Below w1.heap.size w1 wr) (fun _ i _ => m - (intOf i).toNat)
  case atStart => exact ⟨0, Nat.zero_le _, rfl, by rw [H0.out], bw_refl _⟩
  case round =>
    obtain ⟨k, hk, rfl, rfl, hnx⟩ := hrel
    by_cases hlt : k < m
    case neg =>
      obtain rfl : k = m := by omega
      rw [HE.out]
      go_wp2_with fail
      go_ret
      exact ⟨rfl, bw_trans J1 hnx⟩
    case pos =>
      rcases hP1.2 with h0 | ⟨b, off, rfl, hbl, hcs⟩
      · omega
      obtain ⟨c0, c1'⟩ := hcs k hlt
      have d0 := cell_regrown ((hnx.cell (p := ⟨b, off + k * 2, none⟩) hbl).trans c0)
      have d1 := cell_regrown ((hnx.cell (p := ⟨b, off + k * 2 + 1, none⟩) hbl).trans c1')
      have hpk : okP (ptAt T k) = true := HOK _ (by rw [ptAt_lt (by rw [HL.out]; exact hlt)]; exact List.getElem_mem _)
      obtain ⟨⟨g0, g1⟩, g2, g3⟩ := (okP_iff _).1 hpk
      have hsz : (cdB (T.take k)).size ≤ 3600 := by
        rw [cdB_size (fun p hp => HOK p (List.mem_of_mem_take hp)), List.length_take]; omega
      have hst := cdB_step (cdB (T.take k)) T k (by rw [HL.out]; exact hlt) rfl
      have l1 := dec_len (ptAt T k).1 (by omega) (by omega)
      have l2 := dec_len (ptAt T k).2 (by omega) (by omega)
      have C1 : Hid (∀ d' os, Calls Tryd.prog 60 #[.int .i64 (ptAt T k).1] (grow (redrawn wr d') os) fun e w'' => e = .returned (.string ⟨(Lib.decDigits (ptAt T k).1.toNat).toArray⟩) ∧ Below (grow (redrawn wr d') os).heap.size (grow (redrawn wr d') os) w'') := fun d' os => dec_int _ _ (by omega) (by omega)
      have C2 : Hid (∀ d' os, Calls Tryd.prog 60 #[.int .i64 (ptAt T k).2] (grow (redrawn wr d') os) fun e w'' => e = .returned (.string ⟨(Lib.decDigits (ptAt T k).2.toNat).toArray⟩) ∧ Below (grow (redrawn wr d') os).heap.size (grow (redrawn wr d') os) w'') := fun d' os => dec_int _ _ (by omega) (by omega)
      have j0 : (0 : Int) ≤ (k : Int) := Int.natCast_nonneg _
      have j1 : (k : Int) < (m : Int) := by omega
      have HST : Hid _ := hst
      obtain ⟨nx, hx⟩ : ∃ nx, cdB (T.take (k + 1)) = nx := ⟨_, rfl⟩
      rw [hx] at HST
      have HX : Hid (cdB (T.take (k + 1)) = nx) := hx
      generalize cdB (T.take k) = X at *
      generalize (ptAt T k).1 = px at *
      generalize (ptAt T k).2 = py at *
      clear hcs c0 c1' hst hx g0 g1 g2 g3 hpk
      rcases Nat.eq_zero_or_pos k with h0 | h0
      · subst h0
        rw [Nat.zero_mul, Nat.add_zero] at d0 d1
        have e1 : Hid (X ++ ByteArray.mk #[71, 48] ++ ByteArray.mk #[32, 88] ++ ByteArray.mk (Lib.decDigits px.toNat).toArray ++ ByteArray.mk #[32, 89] ++ ByteArray.mk (Lib.decDigits py.toNat).toArray ++ ByteArray.mk #[10] = nx) := HST.out
        clear HST
        go_wp2_with fail
        refine wp_region_quiet_below (by kernel_rfl) (by kernel_rfl) ?_
        repeat (first | go_big_quiet_step (first | (go_at_call 60; with_reducible exact Calls.regrown_of (C1.out _ _)) | (go_at_call 60; with_reducible exact Calls.regrown_of (C2.out _ _))))
        refine wpQuiet_nil ?_
        intro _ hw'
        obtain ⟨⟨dq, osq⟩, hw''⟩ := hw'
        subst hw''
        have J9 := below_regrown wr dq osq
        generalize grow (redrawn wr dq) osq = w9 at J9 ⊢
        go_wp2_with fail
        go_roundw
        case rel => exact ⟨1, by omega, by simp, by rw [HX.out, ← e1.out], bw_trans hnx J9⟩
        case measure => simp [intOf]; omega
      · have e1 : Hid (X ++ ByteArray.mk #[71, 49] ++ ByteArray.mk #[32, 88] ++ ByteArray.mk (Lib.decDigits px.toNat).toArray ++ ByteArray.mk #[32, 89] ++ ByteArray.mk (Lib.decDigits py.toNat).toArray ++ ByteArray.mk #[10] = nx) := by
          have h := HST.out
          unfold cwL at h
          rw [if_neg (by omega)] at h
          exact h
        have k0 : ((k : Int) == 0) = false := by simp; omega
        clear HST
        go_wp2_with fail
        refine wp_region_quiet_below (by kernel_rfl) (by kernel_rfl) ?_
        repeat (first | go_big_quiet_step (first | (go_at_call 60; with_reducible exact Calls.regrown_of (C1.out _ _)) | (go_at_call 60; with_reducible exact Calls.regrown_of (C2.out _ _))))
        refine wpQuiet_nil ?_
        intro _ hw'
        obtain ⟨⟨dq, osq⟩, hw''⟩ := hw'
        subst hw''
        have J9 := below_regrown wr dq osq
        generalize grow (redrawn wr dq) osq = w9 at J9 ⊢
        go_wp2_with fail
        go_roundw
        case rel => exact ⟨k + 1, by omega, by simp, by rw [HX.out, ← e1.out], bw_trans hnx J9⟩
        case measure => simp [intOf]; omega
theorem turnsV_ok' (l : List P2) (h : pathP l = false) : cdV l = ⟨#[]⟩ := by unfold cdV; rw [h]; rfl
theorem sCodeWrite_any (a : Option Addr) (np cp : Nat) (l : List P2) (w : World) (hn : np ≤ 1048576) (hP : Pts w.heap.size w a np l) :
    Calls Tryd.prog 12 #[.slice a np cp] w fun e W' => e = .returned (.string (cdV l)) ∧ Below w.heap.size w W' := by
  have h1 := sPath_any a np cp l w hn hP
  cases hp : pathP l
  · have E : Hid (cdV l = ⟨#[]⟩) := turnsV_ok' l hp
    rw [hp] at h1
    go_enter Tryd.func12, Tryd.ntmps12
    go_wp2_with fail
    refine h1.mono ?_
    rintro e w1 ⟨rfl, J1⟩
    go_wp2_with fail
    go_ret
    exact ⟨by rw [E.out]; rfl, J1⟩
  · have E : Hid (cdV l = cdB (turnsL l)) := by change _ = _; unfold cdV; rw [hp]; rfl
    rw [hp] at h1
    go_enter Tryd.func12, Tryd.ntmps12
    go_wp2_with fail
    refine h1.mono ?_
    rintro e w1 ⟨rfl, J1⟩
    go_wp2_with fail
    refine (sWrite_ok a np cp l w1 ((hP.below J1).grow J1.size) hp).mono ?_
    rintro e w2 ⟨rfl, J2⟩
    go_wp2_with fail
    go_ret
    exact ⟨by rw [E.out]; rfl, bw_trans J1 J2⟩
end Go.Proofs.YtfdnadiliedikaaDoor
namespace Go.Proofs.YtfdnadiliedikaaDoor
open Go.RowKit Go.Sort

/-- The point of a line, as the specification takes it. -/
def dpP (x : List UInt8) : Option P2 :=
  match x with
  | [_, _, _, _, e, _, _, h] => if digB e = true ∧ digB h = true then some (((e.toNat : Int) - 48), ((h.toNat : Int) - 48)) else none
  | _ => none
def dpsP : List (List UInt8) → Option (List P2)
  | [] => some []
  | x :: xs => match dpP x with
    | none => none
    | some p => (dpsP xs).map (p :: ·)
theorem dpsP_snoc (xs : List (List UInt8)) (x : List UInt8) : dpsP (xs ++ [x]) = match dpsP xs with
    | none => none
    | some l => (dpP x).map (fun p => l ++ [p]) := by
  induction xs with
  | nil => cases h : dpP x <;> simp [dpsP, h]
  | cons y ys ih =>
    simp only [List.cons_append, dpsP]
    cases h : dpP y with
    | none => rfl
    | some p =>
      simp only [ih]
      cases dpsP ys with
      | none => rfl
      | some l => cases dpP x <;> rfl
theorem dpsP_none {xs : List (List UInt8)} {k : Nat} (h : dpsP (xs.take k) = none) : dpsP xs = none := by
  induction xs generalizing k with
  | nil => simpa using h
  | cons y ys ih =>
    cases k with
    | zero => simp [dpsP] at h
    | succ k =>
      simp only [List.take_succ_cons, dpsP] at h ⊢
      cases hy : dpP y with
      | none => rfl
      | some p =>
        rw [hy] at h
        simp only [Option.map_eq_none_iff] at h ⊢
        exact ih h
theorem dpP_8 {a b c d e f g h : UInt8} (h1 : digB e = true ∧ digB h = true) : dpP [a, b, c, d, e, f, g, h] = some (((e.toNat : Int) - 48), ((h.toNat : Int) - 48)) := by unfold dpP; simp only; rw [if_pos h1]
theorem dpP_no {x : List UInt8} (h : x.length ≠ 8) : dpP x = none := by
  unfold dpP
  split
  · simp at h
  · rfl
theorem dpP_bad {a b c d e f g h : UInt8} (h1 : ¬ (digB e = true ∧ digB h = true)) : dpP [a, b, c, d, e, f, g, h] = none := by unfold dpP; simp only; rw [if_neg h1]
theorem cut_free10 (x : List UInt8) (h : (10 : UInt8) ∉ x) : cutL 10 x = [x] := by
  induction x with
  | nil => rfl
  | cons b x ih =>
    have hb : b ≠ 10 := fun e => h (by rw [e]; exact List.mem_cons_self)
    rw [cutL, if_neg hb, ih (fun h' => h (List.mem_cons_of_mem _ h'))]
theorem cut_word10 (x r : List UInt8) (h : (10 : UInt8) ∉ x) : cutL 10 (x ++ 10 :: r) = x :: cutL 10 r := by
  induction x with
  | nil => rw [List.nil_append, cutL, if_pos rfl]
  | cons b x ih =>
    have hb : b ≠ 10 := fun e => h (by rw [e]; exact List.mem_cons_self)
    rw [List.cons_append, cutL, if_neg hb, ih (fun h' => h (List.mem_cons_of_mem _ h'))]
theorem dp_back {k : Nat} {p : P2} (h : okP p = true) : ∃ x, lnL k p = x ++ [10] ∧ (10 : UInt8) ∉ x ∧ dpP x = some p := by
  obtain ⟨x, e, hx, hl⟩ := no10_ln (k := k) h
  refine ⟨x, e, hx, ?_⟩
  obtain ⟨⟨h0, h1⟩, h2, h3⟩ := (okP_iff p).1 h
  have e2 : x = cwL k ++ [32, 88, UInt8.ofNat (48 + p.1.toNat), 32, 89, UInt8.ofNat (48 + p.2.toNat)] := by
    rw [lnL_9 h] at e
    have : (cwL k ++ [32, 88, UInt8.ofNat (48 + p.1.toNat), 32, 89, UInt8.ofNat (48 + p.2.toNat)]) ++ [10] = x ++ [10] := by rw [← e]; simp
    exact (List.append_cancel_right this).symm
  obtain ⟨d1, e1⟩ := digB_of (k := p.1.toNat) (by omega)
  obtain ⟨d3, e3⟩ := digB_of (k := p.2.toNat) (by omega)
  have hp : (((UInt8.ofNat (48 + p.1.toNat)).toNat : Int) - 48, ((UInt8.ofNat (48 + p.2.toNat)).toNat : Int) - 48) = p := Prod.ext (by rw [e1]; simp only; omega) (by rw [e3]; simp only; omega)
  rw [e2]
  unfold cwL
  by_cases hk : k = 0
  · rw [if_pos hk]
    exact (dpP_8 ⟨d1, d3⟩).trans (by rw [hp])
  · rw [if_neg hk]
    exact (dpP_8 ⟨d1, d3⟩).trans (by rw [hp])
theorem cut_cd : ∀ {t : List P2} {k : Nat}, (∀ p ∈ t, okP p = true) → ∃ bs, cutL 10 (cdF k t) = bs ++ [[]] ∧ dpsP bs = some t := by
  intro t
  induction t with
  | nil => intro k _; exact ⟨[], rfl, rfl⟩
  | cons p r ih =>
    intro k h
    obtain ⟨x, e, hx, hd⟩ := dp_back (k := k) (h p List.mem_cons_self)
    obtain ⟨bs, hb, hbs⟩ := ih (k := k + 1) (fun q hq => h q (List.mem_cons_of_mem _ hq))
    refine ⟨x :: bs, ?_, ?_⟩
    · simp only [cdF]
      have e2 : lnL k p ++ cdF (k + 1) r = x ++ 10 :: cdF (k + 1) r := by rw [e]; simp
      rw [e2, cut_word10 _ _ hx, hb]; rfl
    · simp only [dpsP, hd, hbs]; rfl
/-- What the specification reads. -/
def readS (z : List UInt8) (xs : List (List UInt8)) : Option (List P2) :=
  match dpsP xs with
  | none => none
  | some t => if stayV t = true ∧ cdL (turnsL (stayR t)) = z then some (stayR t) else none
theorem readS_eq {z : List UInt8} {xs : List (List UInt8)} {x : List UInt8} (hc : cutL 10 z = xs ++ [x]) : readS z xs = readC z := by
  have dir1 : ∀ l, readS z xs = some l → readC z = some l := fun l h => by
    unfold readS at h
    split at h
    · cases h
    · split at h
      · rename_i t ht hs
        cases h
        have s1 : stayR t = stayL t := by unfold stayR; rw [hs.1, if_pos rfl]
        rw [← hs.2]
        exact readC_back (by rw [s1]; exact stay_path hs.1)
      · cases h
  cases h : readC z with
  | some l =>
    obtain ⟨hp, hz⟩ := readC_only h
    have hok := turns_okP hp
    obtain ⟨bs, hb, hbs⟩ := cut_cd (k := 0) hok
    have hb' : cutL 10 z = bs ++ [[]] := by rw [← hz]; exact hb
    have e : xs = bs := by
      rw [hc] at hb'
      exact (List.append_inj' hb' rfl).1
    obtain ⟨s1, s2⟩ := stayV_turns hp
    have s3 : stayR (turnsL l) = l := by unfold stayR; rw [s1, if_pos rfl, s2]
    unfold readS
    rw [e, hbs]
    simp only
    rw [if_pos ⟨s1, by rw [s3]; exact hz⟩, s3]
  | none =>
    cases h2 : readS z xs with
    | none => rfl
    | some l => rw [dir1 l h2] at h; cases h
theorem readC_long {z : List UInt8} (h : ¬ z.length ≤ 4000) : readC z = none := by unfold readC; rw [if_neg h]
theorem AnsT.widen {b b' t t' : Nat} {W : World} {v : Value} {l : List P2} (h : AnsT b t W v l) (hb : b' ≤ b) (ht : t ≤ t') : AnsT b' t' W v l := by
  rcases h with h | ⟨g, c, e, h1, h2, h3, h4⟩
  · exact .inl h
  · exact .inr ⟨g, c, e, by omega, by omega, h3, h4⟩
set_option maxRecDepth 100000 in
set_option maxHeartbeats 4000000 in
theorem sCodeRead_ok (s : ByteArray) (hs : s.size ≤ 1048576) (w : World) :
    Calls Tryd.prog 18 #[.string s] w fun e w' => ∃ v, e = .returned (.tuple #[v, .bool (readC s.data.toList).isSome]) ∧ AnsT w.heap.size w'.heap.size w' v ((readC s.data.toList).getD []) ∧ Below w.heap.size w w' := by
  obtain ⟨i0, hi0, hz0, hz1, hz2⟩ := info_parts Tryd.infoPt
  have esz : s.data.toList.length = s.size := Array.length_toList
  by_cases h4 : s.size ≤ 4000
  case neg =>
    have e1 : Hid (readC s.data.toList = none) := readC_long (by omega)
    have h4' : ((4000 : Int) < (s.size : Int)) := by omega
    go_enter Tryd.func18, Tryd.ntmps18
    go_wp2_with fail
    go_ret2
    exact ⟨_, by rw [e1.out]; rfl, by rw [e1.out]; exact AnsT.of_own (World.ownsRow_made w (base := w.heap.size) #[] 0 (Nat.le_refl _) (by simp [maxLen]) rfl) rfl, (by repeat (first | exact bw_refl _ | assumption | apply bw_drewN | apply bw_drew | apply bw_alloc | refine bw_set ?_ (by simp) _))⟩
  case pos =>
  have h4' : ¬ ((4000 : Int) < (s.size : Int)) := by omega
  obtain ⟨xs, x, hxs⟩ : ∃ xs x, cutL 10 s.data.toList = xs ++ [x] := ⟨_, _, (List.dropLast_concat_getLast (cutL_ne 10 s.data.toList)).symm⟩
  have HRS : Hid (readS s.data.toList xs = readC s.data.toList) := readS_eq hxs
  have hcut := sCut_big s 10 (by omega) w
  have hsm : ∀ y ∈ xs, y.length ≤ 4000 := fun y hy => by
    have := cutL_word 10 s.data.toList y (by rw [hxs]; exact List.mem_append_left _ hy)
    omega
  have hxn := cutL_len 10 s.data.toList
  rw [hxs, List.length_append, List.length_singleton] at hxn
  rw [hxs, List.length_append, List.length_singleton] at hcut
  obtain ⟨nn, hnn⟩ : ∃ nn, xs.length = nn := ⟨_, rfl⟩
  have HNN : Hid (xs.length = nn) := hnn
  have HSM : Hid (∀ y ∈ xs, y.length ≤ 4000) := hsm
  rw [hnn] at hcut hxn
  have hnb : nn ≤ 4000 := by omega
  clear hxs hsm hnn hxn
  go_enter Tryd.func18, Tryd.ntmps18
  go_wp2_with fail
  refine hcut.mono ?_
  clear hcut
  rintro e w1 ⟨v, rfl, ho, J⟩
  obtain ⟨g, cap, rfl, hg, _⟩ := ho.form (by omega)
  have zg := (ho.lt g rfl).2
  have HC : Hid (∀ j y, xs[j]? = some y → w1.cell? ⟨g, j, none⟩ = some (.string ⟨y.toArray⟩)) := fun j y hy => by
    have hj : j < nn := by
      have := (List.getElem?_eq_some_iff.1 hy).1
      rw [HNN.out] at this; exact this
    rw [ho.cellAt j (by omega)]
    unfold wordsV; rw [List.getElem?_map, List.getElem?_append_left (by rw [HNN.out]; exact hj), hy]; rfl
  have zJ := J.size
  have hown0 := World.ownsRow_made w1 (base := w1.heap.size) (e := 42) (size := 2) #[] 0 (Nat.le_refl _) (by simp [maxLen]) rfl
  have B0 : Below w1.heap.size w1 (w1.alloc (.cells #[] 42)) := (by repeat (first | exact bw_refl _ | assumption | apply bw_drewN | apply bw_drew | apply bw_alloc | refine bw_set ?_ (by simp) _))
  clear ho
  go_wp2_with fail
  go_loopw [5, 6] (fun o i wr => ∃ (k : Nat) (v : Value) (l : List P2), v = o ∧ k ≤ nn ∧ i = .int .i64 k ∧ dpsP (xs.take k) = some l ∧ l.length = k ∧ wr.ownsRow w1.heap.size 42 2 v k (ptCells l) ∧ Below w1.heap.size w1 wr) (fun _ i _ => nn - (intOf i).toNat)
  case atStart => exact ⟨0, _, [], rfl, Nat.zero_le _, rfl, rfl, rfl, hown0, B0⟩
  case round =>
    obtain ⟨k, v, l, rfl, hk, rfl, hwl, hll, hown, hnx⟩ := hrel
    have zr := hnx.size
    have Kr := bw_trans J hnx
    have i0' : (0 : Int) ≤ (k : Int) := Int.natCast_nonneg _
    by_cases hlt : k < nn
    case neg =>
      obtain rfl : k = nn := by omega
      rw [List.take_of_length_le (by rw [HNN.out]; exact Nat.le_refl _)] at hwl
      have A0 := AnsT.of_own hown hll
      obtain ⟨a2, c2, rfl, P2'⟩ := A0.own
      rw [hll] at P2'
      have hSt := sStay_any a2 k c2 l wr (by omega) P2'
      have HRS2 : Hid ((if stayV l = true ∧ cdL (turnsL (stayR l)) = s.data.toList then some (stayR l) else none) = readC s.data.toList) := by
        change _ = _
        rw [← HRS.out]
        unfold readS
        rw [hwl]
      have h400 := stayR_len l
      have HLL : Hid (l.length = k) := hll
      rw [hll]
      clear hwl A0 hown hll HRS
      cases hsv : stayV l with
      | false =>
        have e1 : Hid (readC s.data.toList = none) := by change _ = _; rw [← HRS2.out, if_neg (by rw [hsv]; simp)]
        rw [hsv] at hSt
        clear hsv HRS2
        go_wp2_with fail
        refine hSt.mono ?_
        rintro e w3 ⟨v3, rfl, A3, J3⟩
        have K3 := bw_trans Kr J3
        have z3 := K3.size
        go_wp2_with fail
        go_ret2
        exact ⟨_, by rw [e1.out]; rfl, by rw [e1.out]; exact AnsT.of_own (World.ownsRow_made w3 (base := w.heap.size) #[] 0 (by omega) (by simp [maxLen]) rfl) rfl, K3.alloc (by omega) _⟩
      | true =>
        have hpp : pathP (stayR l) = true := by
          have s1 : stayR l = stayL l := by unfold stayR; rw [hsv, if_pos rfl]
          rw [s1]; exact stay_path hsv
        rw [hsv] at hSt
        by_cases hte : cdL (turnsL (stayR l)) = s.data.toList
        case neg =>
          have e1 : Hid (readC s.data.toList = none) := by change _ = _; rw [← HRS2.out, if_neg (fun h => hte h.2)]
          have hne := ba_ne (a := cdB (turnsL (stayR l))) (b := s) (fun e => hte (by rw [← e]; unfold cdB; simp))
          clear hsv HRS2 hte
          go_wp2_with fail
          refine hSt.mono ?_
          rintro e w3 ⟨v3, rfl, A3, J3⟩
          have K3 := bw_trans Kr J3
          obtain ⟨a3, c3, rfl, P3⟩ := A3.own
          have hW := sWrite_ok a3 (stayR l).length c3 (stayR l) w3 P3 hpp
          go_wp2_with fail
          refine hW.mono ?_
          rintro e w4 ⟨rfl, J4⟩
          have K4 := bw_trans K3 J4
          have z4 := K4.size
          go_wp2_with fail
          go_ret2
          exact ⟨_, by rw [e1.out]; rfl, by rw [e1.out]; exact AnsT.of_own (World.ownsRow_made w4 (base := w.heap.size) #[] 0 (by omega) (by simp [maxLen]) rfl) rfl, K4.alloc (by omega) _⟩
        case pos =>
          have e1 : Hid (readC s.data.toList = some (stayR l)) := by change _ = _; rw [← HRS2.out, if_pos ⟨hsv, hte⟩]
          have heq : cdB (turnsL (stayR l)) = s := by
            unfold cdB; rw [hte]
          clear hsv HRS2 hte
          go_wp2_with fail
          refine hSt.mono ?_
          rintro e w3 ⟨v3, rfl, A3, J3⟩
          have K3 := bw_trans Kr J3
          have A3' := A3
          obtain ⟨a3, c3, rfl, P3⟩ := A3.own
          have hW := sWrite_ok a3 (stayR l).length c3 (stayR l) w3 P3 hpp
          rw [heq] at hW
          have zr3 := Kr.size
          go_wp2_with fail
          refine hW.mono ?_
          rintro e w4 ⟨rfl, J4⟩
          have K4 := bw_trans K3 J4
          have z4 := J4.size
          go_wp2_with fail
          go_ret2
          exact ⟨_, by rw [e1.out]; rfl, by rw [e1.out]; exact (A3'.below J4).widen (by omega) z4, K4⟩
    case pos =>
      obtain ⟨y, hy⟩ : ∃ y, xs[k]? = some y := ⟨xs[k]'(by rw [HNN.out]; exact hlt), List.getElem?_eq_getElem _⟩
      have c0 : wr.cell? ⟨g, k, none⟩ = some (.string ⟨y.toArray⟩) := (hnx.cell (p := ⟨g, k, none⟩) zg).trans (HC.out k y hy)
      have i1 : (k : Int) < (nn : Int) := by omega
      have i2 : (k : Int) + 1 < (nn : Int) + 1 := by omega
      have HT : Hid (xs.take (k + 1) = xs.take k ++ [y]) := by change _ = _; rw [List.take_add_one, hy]; rfl
      have HBad : Hid (dpP y = none → readC s.data.toList = none) := fun h => by
        rw [← HRS.out]
        unfold readS
        rw [dpsP_none (k := k + 1) (by rw [HT.out, dpsP_snoc, hwl, h]; rfl)]
      have hyl := HSM.out y (List.mem_of_getElem? hy)
      clear hy
      have hxz : (ByteArray.mk y.toArray).size = y.length := by simp [ByteArray.size]
      by_cases h8 : y.length = 8
      case neg =>
        have e1 : Hid (readC s.data.toList = none) := HBad.out (dpP_no h8)
        have h8' : ((y.length : Int) != 8) = true := by simp; omega
        clear hwl hown
        go_wp2_with fail
        go_ret2
        exact ⟨_, by rw [e1.out]; rfl, by rw [e1.out]; exact AnsT.of_own (World.ownsRow_made wr (base := w.heap.size) #[] 0 (by omega) (by simp [maxLen]) rfl) rfl, Kr.alloc (by omega) _⟩
      case pos =>
        obtain ⟨b0, b1, b2, b3, a, b5, b6, c, rfl⟩ : ∃ b0 b1 b2 b3 a b5 b6 c, y = [b0, b1, b2, b3, a, b5, b6, c] := by
          match y, h8 with
          | [b0, b1, b2, b3, a, b5, b6, c], _ => exact ⟨_, _, _, _, _, _, _, _, rfl⟩
        have g0 : (ByteArray.mk ([b0, b1, b2, b3, a, b5, b6, c] : List UInt8).toArray).size = 8 := rfl
        have g1 : ∀ h, (ByteArray.mk #[b0, b1, b2, b3, a, b5, b6, c])[4]'h = a := fun _ => rfl
        have g2 : ∀ h, (ByteArray.mk #[b0, b1, b2, b3, a, b5, b6, c])[7]'h = c := fun _ => rfl
        clear h8 hxz hyl
        have zwa : wrap64 (a.toNat : Int) = (a.toNat : Int) := by
          have h1 : a.toNat < 256 := a.toNat_lt
          unfold wrap64; omega
        have zwc : wrap64 (c.toNat : Int) = (c.toNat : Int) := by
          have h1 : c.toNat < 256 := c.toNat_lt
          unfold wrap64; omega
        have hD : ∀ (x : UInt8), inR (x.toNat : Int) 48 57 = digB x := fun x => by
          unfold inR digB; congr 1; apply propext; omega
        have hin0 : ∀ V, Calls Tryd.prog 47 #[.int .i64 (a.toNat : Int), .int .i64 48, .int .i64 57] V fun e w' => e = .returned (.bool (digB a)) ∧ w' = V := fun V => by
          have := in_any (a.toNat : Int) 48 57 V
          rw [hD] at this
          exact this
        have hin2 : ∀ V, Calls Tryd.prog 47 #[.int .i64 (c.toNat : Int), .int .i64 48, .int .i64 57] V fun e w' => e = .returned (.bool (digB c)) ∧ w' = V := fun V => by
          have := in_any (c.toNat : Int) 48 57 V
          rw [hD] at this
          exact this
        have H0 := show Hid _ from hin0
        have H2 := show Hid _ from hin2
        clear hin0 hin2 hD
        by_cases hda : digB a = true
        case neg =>
          have e1 : Hid (readC s.data.toList = none) := HBad.out (dpP_bad (fun h => hda h.1))
          rw [Bool.not_eq_true] at hda
          rw [hda] at H0
          clear hwl hown
          go_wp2_with (go_at_call 47; (with_reducible refine (H0.out _).mono ?_); rintro e wq ⟨rfl, hq⟩; rw [hq]; clear hq wq)
          go_ret2
          exact ⟨_, by rw [e1.out]; rfl, by rw [e1.out]; exact AnsT.of_own (World.ownsRow_made wr (base := w.heap.size) #[] 0 (by omega) (by simp [maxLen]) rfl) rfl, Kr.alloc (by omega) _⟩
        case pos =>
          rw [hda] at H0
          by_cases hdc : digB c = true
          case neg =>
            have e1 : Hid (readC s.data.toList = none) := HBad.out (dpP_bad (fun h => hdc h.2))
            rw [Bool.not_eq_true] at hdc
            rw [hdc] at H2
            clear hwl hown
            go_wp2_with first | (go_at_call 47; (with_reducible refine (H0.out _).mono ?_); rintro e wq ⟨rfl, hq⟩; rw [hq]; clear hq wq) | (go_at_call 47; (with_reducible refine (H2.out _).mono ?_); rintro e wq ⟨rfl, hq⟩; rw [hq]; clear hq wq)
            go_ret2
            exact ⟨_, by rw [e1.out]; rfl, by rw [e1.out]; exact AnsT.of_own (World.ownsRow_made wr (base := w.heap.size) #[] 0 (by omega) (by simp [maxLen]) rfl) rfl, Kr.alloc (by omega) _⟩
          case pos =>
            rw [hdc] at H2
            have hda' : 48 ≤ a.toNat ∧ a.toNat ≤ 57 := by unfold digB at hda; exact of_decide_eq_true hda
            have hdc' : 48 ≤ c.toNat ∧ c.toNat ≤ 57 := by unfold digB at hdc; exact of_decide_eq_true hdc
            have hsn : Hid (dpsP (xs.take (k + 1)) = some (l ++ [((a.toNat : Int) - 48, (c.toNat : Int) - 48)])) := by
              change _ = _
              rw [HT.out, dpsP_snoc, hwl]
              simp only
              rw [dpP_8 ⟨hda, hdc⟩]; rfl
            have zu1 : IntKind.u8.wrap ((a.toNat : Int) - 48) = (a.toNat : Int) - 48 := by unfold IntKind.wrap; simp [IntKind.bits, IntKind.signed]; omega
            have zu2 : IntKind.u8.wrap ((c.toNat : Int) - 48) = (c.toNat : Int) - 48 := by unfold IntKind.wrap; simp [IntKind.bits, IntKind.signed]; omega
            have zv1 : wrap64 ((a.toNat : Int) - 48) = (a.toNat : Int) - 48 := by unfold wrap64; omega
            have zv2 : wrap64 ((c.toNat : Int) - 48) = (c.toNat : Int) - 48 := by unfold wrap64; omega
            have zi1 : IntKind.i64.wrap ((a.toNat : Int) - 48) = (a.toNat : Int) - 48 := wrap_small (by omega) (by omega)
            have zi2 : IntKind.i64.wrap ((c.toNat : Int) - 48) = (c.toNat : Int) - 48 := wrap_small (by omega) (by omega)
            clear hwl hda hdc hda' hdc'
            go_wp2_with first | (go_at_call 47; (with_reducible refine (H0.out _).mono ?_); rintro e wq ⟨rfl, hq⟩; rw [hq]; clear hq wq) | (go_at_call 47; (with_reducible refine (H2.out _).mono ?_); rintro e wq ⟨rfl, hq⟩; rw [hq]; clear hq wq)
            go_region_held3 (fun _ => True) (trivial) (first
              | (refine step_append_more (by rfl) _ _ _ (by rfl) w1.heap.size 42 i0 _ 2 16 Tryd.underlying23 hi0 hz0 hz1 hz2 rfl (by omega) _ k _ (by rfl) (hown.alloc _) ⟨wr.heap.size, 0, none⟩ 1 1 [.int .i64 ((a.toNat : Int) - 48), .int .i64 ((c.toNat : Int) - 48)] (by rfl) (by rfl) (World.news_of_block (cs := #[.int .i64 ((a.toNat : Int) - 48), .int .i64 ((c.toNat : Int) - 48)]) (t := 42) (fr := (0, 0)) (heap_alloc_new wr _)) (by simp [Value.oneCell']) (by omega) (by simp [maxLen]; omega) (by omega) (by simp; omega) ?_; intro gq cq w7 hown1 hgr2 hgq))
            all_goals
              have B1 : Below wr.heap.size wr ((wr.alloc (.cells #[.int .i64 ((a.toNat : Int) - 48), .int .i64 ((c.toNat : Int) - 48)] 42)).drew) := (by repeat (first | exact bw_refl _ | assumption | apply bw_drewN | apply bw_drew | apply bw_alloc | refine bw_set ?_ (by simp) _))
              have B2 := (bw_trans hnx B1).grown hgr2 (by simp; omega) (fun j e => (hown.lt j e).1)
              go_wp2_with fail
              go_roundw
              case rel => exact ⟨k + 1, _, l ++ [((a.toNat : Int) - 48, (c.toNat : Int) - 48)], rfl, by omega, by first | rfl | simp, hsn.out, by simp [hll], by rw [ptCells_snoc]; exact hown1, B2⟩
              case measure => simp [intOf]; omega
end Go.Proofs.YtfdnadiliedikaaDoor
namespace Go.Proofs.YtfdnadiliedikaaDoor
open Go.RowKit Go.Sort

set_option maxRecDepth 100000 in
set_option maxHeartbeats 1000000 in
theorem luSame_same (a c : Option Addr) (len cap cap' : Nat) (l : List P2) (w : World) (hA : Pts w.heap.size w a len l) (hC : Pts w.heap.size w c len l) (hlen : len ≤ 1048576) :
    Calls Tryd.prog 14 #[.slice a len cap, .slice c len cap'] w fun e w' => e = .returned (.bool true) ∧ Below w.heap.size w w' := by
  go_enter Tryd.func14, Tryd.ntmps14
  go_wp2_with fail
  go_loopw [5] (fun i wr => ∃ k : Nat, k ≤ len ∧ i = .int .i64 k ∧ Below w.heap.size w wr) (fun i _ => len - (intOf i).toNat)
  case atStart => exact ⟨0, Nat.zero_le _, rfl, bw_refl _⟩
  case round =>
    obtain ⟨k, hk, rfl, hnx⟩ := hrel
    by_cases hlt : k < len
    · rcases hA.2 with h0 | ⟨b, off, rfl, hbl, hc⟩
      · omega
      rcases hC.2 with h0 | ⟨b', off', rfl, hbl', hc'⟩
      · omega
      have d0 := cell_regrown ((hnx.cell (p := ⟨b, off + k * 2, none⟩) hbl).trans (hc k hlt).1)
      have d1 := cell_regrown ((hnx.cell (p := ⟨b, off + k * 2 + 1, none⟩) hbl).trans (hc k hlt).2)
      have d2 := cell_regrown ((hnx.cell (p := ⟨b', off' + k * 2, none⟩) hbl').trans (hc' k hlt).1)
      have d3 := cell_regrown ((hnx.cell (p := ⟨b', off' + k * 2 + 1, none⟩) hbl').trans (hc' k hlt).2)
      have i0 : (0 : Int) ≤ (k : Int) := Int.natCast_nonneg _
      have i1 : (k : Int) < (len : Int) := by omega
      clear hc hc'
      go_wp2_with fail
      refine wp_region_quiet_below (by kernel_rfl) (by kernel_rfl) ?_
      repeat (first | go_big_quiet_step (fail))
      refine wpQuiet_nil ?_
      intro _ hw'
      obtain ⟨⟨dq, osq⟩, hw''⟩ := hw'
      subst hw''
      have J := below_regrown wr dq osq
      generalize grow (redrawn wr dq) osq = w1 at J ⊢
      go_wp2_with fail
      go_roundw
      case rel => exact ⟨k + 1, by omega, by simp, bw_trans hnx J⟩
      case measure => simp [intOf]; omega
    · obtain rfl : k = len := by omega
      go_wp2
      go_ret
      exact ⟨rfl, hnx⟩
end Go.Proofs.YtfdnadiliedikaaDoor
namespace Go.Proofs.YtfdnadiliedikaaDoor
open Go.RowKit Go.Sort

theorem pts_ext {l m : List P2} (h : l.length = m.length) (hp : ∀ i, i < l.length → ptAt l i = ptAt m i) : l = m := by
  apply List.ext_getElem h
  intro i h1 h2
  have := hp i h1
  unfold ptAt at this
  rwa [List.getElem?_eq_getElem h1, List.getElem?_eq_getElem h2, Option.getD_some, Option.getD_some] at this
set_option maxRecDepth 100000 in
set_option maxHeartbeats 2000000 in
theorem luSame_any (a c : Option Addr) (n m cap cap' : Nat) (l q : List P2) (w : World) (hA : Pts w.heap.size w a n l) (hC : Pts w.heap.size w c m q) (hn : n ≤ 1048576) :
    Calls Tryd.prog 14 #[.slice a n cap, .slice c m cap'] w fun e w' => e = .returned (.bool (decide (l = q))) ∧ Below w.heap.size w w' := by
  by_cases hnm : n = m
  case neg =>
    have e1 : Hid (decide (l = q) = false) := by
      change _ = _
      apply decide_eq_false
      intro e; apply hnm; rw [← hA.1, ← hC.1, e]
    have h1 : ((n : Int) != (m : Int)) = true := by simp; omega
    rw [e1.out]
    go_enter Tryd.func14, Tryd.ntmps14
    go_wp2_with fail
    go_ret
    exact ⟨rfl, bw_refl _⟩
  case pos =>
  subst hnm
  have hl := hA.1
  have hq := hC.1
  go_enter Tryd.func14, Tryd.ntmps14
  go_wp2_with fail
  go_loopw [5] (fun i wr => ∃ k : Nat, k ≤ n ∧ i = .int .i64 k ∧ (∀ j, j < k → ptAt l j = ptAt q j) ∧ Below w.heap.size w wr) (fun i _ => n - (intOf i).toNat)
  case atStart => exact ⟨0, Nat.zero_le _, rfl, fun j hj => absurd hj (Nat.not_lt_zero _), bw_refl _⟩
  case round =>
    obtain ⟨k, hk, rfl, hall, hnx⟩ := hrel
    by_cases hlt : k < n
    · rcases hA.2 with h0 | ⟨b, off, rfl, hbl, hc⟩
      · omega
      rcases hC.2 with h0 | ⟨b', off', rfl, hbl', hc'⟩
      · omega
      have d0 := cell_regrown ((hnx.cell (p := ⟨b, off + k * 2, none⟩) hbl).trans (hc k hlt).1)
      have d1 := cell_regrown ((hnx.cell (p := ⟨b, off + k * 2 + 1, none⟩) hbl).trans (hc k hlt).2)
      have d2 := cell_regrown ((hnx.cell (p := ⟨b', off' + k * 2, none⟩) hbl').trans (hc' k hlt).1)
      have d3 := cell_regrown ((hnx.cell (p := ⟨b', off' + k * 2 + 1, none⟩) hbl').trans (hc' k hlt).2)
      have i0 : (0 : Int) ≤ (k : Int) := Int.natCast_nonneg _
      have i1 : (k : Int) < (n : Int) := by omega
      have HALL : Hid _ := hall
      clear hc hc' hall
      by_cases hx : (ptAt l k).1 = (ptAt q k).1
      case neg =>
        have e1 : Hid (decide (l = q) = false) := by
          change _ = _; apply decide_eq_false; intro e; exact hx (by rw [e])
        have b1 : ((ptAt l k).1 == (ptAt q k).1) = false := by simpa using hx
        have b2 : decide ((ptAt l k).1 = (ptAt q k).1) = false := by simpa using hx
        go_wp2_with fail
        refine wp_region_quiet_below (by kernel_rfl) (by kernel_rfl) ?_
        repeat (first | go_big_quiet_step (fail))
        refine wpQuiet_nil ?_
        intro _ hw'
        obtain ⟨⟨dq, osq⟩, hw''⟩ := hw'
        subst hw''
        have J := below_regrown wr dq osq
        generalize grow (redrawn wr dq) osq = w1 at J ⊢
        go_wp2_with fail
        go_ret
        exact ⟨by rw [e1.out]; rfl, bw_trans hnx J⟩
      case pos =>
      by_cases hy : (ptAt l k).2 = (ptAt q k).2
      case neg =>
        have e1 : Hid (decide (l = q) = false) := by
          change _ = _; apply decide_eq_false; intro e; exact hy (by rw [e])
        have b1 : ((ptAt l k).2 == (ptAt q k).2) = false := by simpa using hy
        have b2 : decide ((ptAt l k).2 = (ptAt q k).2) = false := by simpa using hy
        rw [← hx] at d2
        go_wp2_with fail
        refine wp_region_quiet_below (by kernel_rfl) (by kernel_rfl) ?_
        repeat (first | go_big_quiet_step (fail))
        refine wpQuiet_nil ?_
        intro _ hw'
        obtain ⟨⟨dq, osq⟩, hw''⟩ := hw'
        subst hw''
        have J := below_regrown wr dq osq
        generalize grow (redrawn wr dq) osq = w1 at J ⊢
        go_wp2_with fail
        go_ret
        exact ⟨by rw [e1.out]; rfl, bw_trans hnx J⟩
      case pos =>
      have hpt : ptAt l k = ptAt q k := Prod.ext hx hy
      have HPT : Hid (ptAt l k = ptAt q k) := hpt
      rw [← hpt] at d2 d3
      clear hx hy hpt
      go_wp2_with fail
      refine wp_region_quiet_below (by kernel_rfl) (by kernel_rfl) ?_
      repeat (first | go_big_quiet_step (fail))
      refine wpQuiet_nil ?_
      intro _ hw'
      obtain ⟨⟨dq, osq⟩, hw''⟩ := hw'
      subst hw''
      have J := below_regrown wr dq osq
      generalize grow (redrawn wr dq) osq = w1 at J ⊢
      go_wp2_with fail
      go_roundw
      case rel =>
        refine ⟨k + 1, by omega, by simp, fun j hj => ?_, bw_trans hnx J⟩
        rcases Nat.lt_or_ge j k with h | h
        · exact HALL.out j h
        · obtain rfl : j = k := by omega
          exact HPT.out
      case measure => simp [intOf]; omega
    · obtain rfl : k = n := by omega
      have e1 : Hid (decide (l = q) = true) := by
        change _ = _; apply decide_eq_true; exact pts_ext (by rw [hl, hq]) (by rw [hl]; exact hall)
      go_wp2_with fail
      go_ret
      exact ⟨by rw [e1.out]; rfl, hnx⟩
end Go.Proofs.YtfdnadiliedikaaDoor
namespace Go.Proofs.YtfdnadiliedikaaDoor
open Go.RowKit Go.Sort

set_option maxRecDepth 100000 in
set_option maxHeartbeats 2000000 in
theorem slEq_any (a c : Option Addr) (n m cap cap' : Nat) (l q : List P2) (w : World) (hA : Pts w.heap.size w a n l) (hC : Pts w.heap.size w c m q) (hn : n ≤ 1048576) :
    Calls Tryd.prog 39 #[.slice a n cap, .slice c m cap'] w fun e w' => e = .returned (.bool (decide (l = q))) ∧ Below w.heap.size w w' := by
  by_cases hnm : n = m
  case neg =>
    have e1 : Hid (decide (l = q) = false) := by
      change _ = _
      apply decide_eq_false
      intro e; apply hnm; rw [← hA.1, ← hC.1, e]
    have h1 : ((n : Int) != (m : Int)) = true := by simp; omega
    rw [e1.out]
    go_enter Tryd.func39, Tryd.ntmps39
    go_wp2_with fail
    go_ret
    exact ⟨rfl, bw_refl _⟩
  case pos =>
  subst hnm
  have hl := hA.1
  have hq := hC.1
  go_enter Tryd.func39, Tryd.ntmps39
  go_wp2_with fail
  go_loopw [13] (fun i wr => ∃ k : Nat, k ≤ n ∧ i = .int .i64 k ∧ (∀ j, j < k → ptAt l j = ptAt q j) ∧ Below w.heap.size w wr) (fun i _ => n - (intOf i).toNat)
  case atStart => exact ⟨0, Nat.zero_le _, rfl, fun j hj => absurd hj (Nat.not_lt_zero _), bw_refl _⟩
  case round =>
    obtain ⟨k, hk, rfl, hall, hnx⟩ := hrel
    by_cases hlt : k < n
    · rcases hA.2 with h0 | ⟨b, off, rfl, hbl, hc⟩
      · omega
      rcases hC.2 with h0 | ⟨b', off', rfl, hbl', hc'⟩
      · omega
      have d0 := cell_regrown ((hnx.cell (p := ⟨b, off + k * 2, none⟩) hbl).trans (hc k hlt).1)
      have d1 := cell_regrown ((hnx.cell (p := ⟨b, off + k * 2 + 1, none⟩) hbl).trans (hc k hlt).2)
      have d2 := cell_regrown ((hnx.cell (p := ⟨b', off' + k * 2, none⟩) hbl').trans (hc' k hlt).1)
      have d3 := cell_regrown ((hnx.cell (p := ⟨b', off' + k * 2 + 1, none⟩) hbl').trans (hc' k hlt).2)
      have i0 : (0 : Int) ≤ (k : Int) := Int.natCast_nonneg _
      have i1 : (k : Int) < (n : Int) := by omega
      have HALL : Hid _ := hall
      clear hc hc' hall
      by_cases hx : (ptAt l k).1 = (ptAt q k).1
      case neg =>
        have e1 : Hid (decide (l = q) = false) := by
          change _ = _; apply decide_eq_false; intro e; exact hx (by rw [e])
        have b1 : ((ptAt l k).1 == (ptAt q k).1) = false := by simpa using hx
        have b2 : decide ((ptAt l k).1 = (ptAt q k).1) = false := by simpa using hx
        go_wp2_with fail
        refine wp_region_quiet_below (by kernel_rfl) (by kernel_rfl) ?_
        repeat (first | go_big_quiet_step (fail))
        refine wpQuiet_nil ?_
        intro _ hw'
        obtain ⟨⟨dq, osq⟩, hw''⟩ := hw'
        subst hw''
        have J := below_regrown wr dq osq
        generalize grow (redrawn wr dq) osq = w1 at J ⊢
        go_wp2_with fail
        go_ret
        exact ⟨by rw [e1.out]; rfl, bw_trans hnx J⟩
      case pos =>
      by_cases hy : (ptAt l k).2 = (ptAt q k).2
      case neg =>
        have e1 : Hid (decide (l = q) = false) := by
          change _ = _; apply decide_eq_false; intro e; exact hy (by rw [e])
        have b1 : ((ptAt l k).2 == (ptAt q k).2) = false := by simpa using hy
        have b2 : decide ((ptAt l k).2 = (ptAt q k).2) = false := by simpa using hy
        rw [← hx] at d2
        go_wp2_with fail
        refine wp_region_quiet_below (by kernel_rfl) (by kernel_rfl) ?_
        repeat (first | go_big_quiet_step (fail))
        refine wpQuiet_nil ?_
        intro _ hw'
        obtain ⟨⟨dq, osq⟩, hw''⟩ := hw'
        subst hw''
        have J := below_regrown wr dq osq
        generalize grow (redrawn wr dq) osq = w1 at J ⊢
        go_wp2_with fail
        go_ret
        exact ⟨by rw [e1.out]; rfl, bw_trans hnx J⟩
      case pos =>
      have hpt : ptAt l k = ptAt q k := Prod.ext hx hy
      have HPT : Hid (ptAt l k = ptAt q k) := hpt
      rw [← hpt] at d2 d3
      clear hx hy hpt
      go_wp2_with fail
      refine wp_region_quiet_below (by kernel_rfl) (by kernel_rfl) ?_
      repeat (first | go_big_quiet_step (fail))
      refine wpQuiet_nil ?_
      intro _ hw'
      obtain ⟨⟨dq, osq⟩, hw''⟩ := hw'
      subst hw''
      have J := below_regrown wr dq osq
      generalize grow (redrawn wr dq) osq = w1 at J ⊢
      go_wp2_with fail
      go_roundw
      case rel =>
        refine ⟨k + 1, by omega, by simp, fun j hj => ?_, bw_trans hnx J⟩
        rcases Nat.lt_or_ge j k with h | h
        · exact HALL.out j h
        · obtain rfl : j = k := by omega
          exact HPT.out
      case measure => simp [intOf]; omega
    · obtain rfl : k = n := by omega
      have e1 : Hid (decide (l = q) = true) := by
        change _ = _; apply decide_eq_true; exact pts_ext (by rw [hl, hq]) (by rw [hl]; exact hall)
      go_wp2_with fail
      go_ret
      exact ⟨by rw [e1.out]; rfl, hnx⟩
end Go.Proofs.YtfdnadiliedikaaDoor
namespace Go.Proofs.YtfdnadiliedikaaDoor
open Go.RowKit Go.Sort

theorem sCodeStay_any (a : Option Addr) (np cp : Nat) (l : List P2) (w : World) (hn : np ≤ 1048576) (hP : Pts w.heap.size w a np l) :
    Calls Tryd.prog 26 #[.slice a np cp] w fun e W' => ∃ v, e = .returned (.tuple #[v, .bool (stayV l)]) ∧ AnsT w.heap.size W'.heap.size W' v (stayR l) ∧ Below w.heap.size w W' := by
  have h1 := sStay_any a np cp l w hn hP
  go_enter Tryd.func26, Tryd.ntmps26
  go_wp2_with fail
  refine h1.mono ?_
  rintro e w1 ⟨v, rfl, A, J⟩
  go_wp2_with fail
  go_ret2
  exact ⟨v, rfl, A, J⟩
theorem cmp_sg (x y : Int) : cmpI x y = sg1 (x - y) := by
  rcases Int.lt_trichotomy x y with h | h | h
  · rw [sg1_neg (by omega)]; unfold cmpI; rw [if_pos h]
  · subst h; rw [Int.sub_self]; unfold cmpI; simp [sg1]
  · rw [sg1_pos (by omega)]; unfold cmpI; rw [if_neg (by omega), if_pos h]
theorem sg1_bd (x : Int) : -1 ≤ sg1 x ∧ sg1 x ≤ 1 := by
  rcases Int.lt_trichotomy x 0 with h | h | h
  · rw [sg1_neg h]; omega
  · subst h; rw [sg1_zero]; omega
  · rw [sg1_pos h]; omega
theorem inlP_way (a b : P2) : inlP a b = decide (dt 0 0 (wayP a b).1 (wayP a b).2 (wayP a b).1 (wayP a b).2 = 1) := by
  obtain ⟨ax, ay⟩ := a
  obtain ⟨bx, b_y⟩ := b
  rw [Bool.eq_iff_iff]
  simp only [inlP, wayP, dt, Bool.and_eq_true, decide_eq_true_eq, ne_eq, Prod.mk.injEq, Int.sub_zero]
  rcases Int.lt_trichotomy (bx - ax) 0 with h | h | h <;> rcases Int.lt_trichotomy (b_y - ay) 0 with h' | h' | h'
  all_goals
    first | rw [sg1_neg h] | rw [h, sg1_zero] | rw [sg1_pos h]
    first | rw [sg1_neg h'] | rw [h', sg1_zero] | rw [sg1_pos h']
    simp
    try omega
set_option maxHeartbeats 400000 in
theorem square_small (x y : Int) (w : World) (hx : -1 ≤ x ∧ x ≤ 1) (hy : -1 ≤ y ∧ y ≤ 1) :
    Calls Tryd.prog 53 #[.agg #[.int .i64 0, .int .i64 0], .agg #[.int .i64 x, .int .i64 y]] w fun e w' => e = .returned (.int .i64 (dt 0 0 x y x y)) ∧ Below w.heap.size w w' := by
  have h1 := prod_bd (x := x - 0) (y := x - 0) (by omega) (by omega) (by omega) (by omega)
  have h2 := prod_bd (x := y - 0) (y := y - 0) (by omega) (by omega) (by omega) (by omega)
  have hA : ∀ V, Calls Tryd.prog 71 #[.agg #[.int .i64 0, .int .i64 0], .agg #[.int .i64 x, .int .i64 y], .agg #[.int .i64 x, .int .i64 y]] V fun e w' => e = .returned (.int .i64 (dt 0 0 x y x y)) ∧ Below V.heap.size V w' := fun V => by
    have e1 : Hid (dt 0 0 x y x y = x * x + y * y) := by change _ = _; unfold dt; rw [Int.sub_zero, Int.sub_zero]
    rw [Int.sub_zero] at h1 h2
    go_enter Tryd.func71, Tryd.ntmps71
    go_wp2_with fail
    go_ret
    exact ⟨by rw [e1.out]; rfl, (by repeat (first | exact bw_refl _ | assumption | apply bw_drewN | apply bw_drew | apply bw_alloc | refine bw_set ?_ (by simp) _))⟩
  go_enter Tryd.func53, Tryd.ntmps53
  go_wp2_with fail
  refine (hA _).mono ?_
  rintro e v ⟨rfl, J⟩
  go_wp2_with fail
  go_ret
  exact ⟨rfl, bw_trans (by repeat (first | exact bw_refl _ | assumption | apply bw_drewN | apply bw_drew | apply bw_alloc | refine bw_set ?_ (by simp) _)) J⟩
theorem stay_pathP {t : List P2} (h1 : 1 ≤ t.length) (h2 : ∀ i, i < t.length → okP (ptAt t i) = true) (h3 : ∀ i, i + 1 < t.length → inlP (ptAt t i) (ptAt t (i + 1)) = true) (h4 : t.length ≤ 400) : pathP (stayL t) = stayV t := by
  have hin := (inL_iff t).2 h3
  have hok := all_at.2 h2
  have hch : chL (stayL t) = true ∧ (∀ p ∈ stayL t, okP p = true) ∧ 1 ≤ (stayL t).length := by
    match t, h1, hin, hok with
    | a :: r, _, hin, hok =>
      refine ⟨stayG_ch hin, fun p hp => ?_, by show 1 ≤ (a :: stayG a r).length; simp⟩
      rcases List.mem_cons.1 hp with rfl | hp
      · exact hok _ List.mem_cons_self
      · exact stayG_ok hin (hok _ List.mem_cons_self) (fun q hq => hok q (List.mem_cons_of_mem _ hq)) p hp
  rw [Bool.eq_iff_iff]
  constructor
  · intro h
    exact stayV_of ⟨h1, h4⟩ hok hin (pathP_parts h).1.2
  · intro h
    exact stay_path h
set_option maxRecDepth 100000 in
set_option maxHeartbeats 4000000 in
theorem codeStay_any (a : Option Addr) (np cp : Nat) (l : List P2) (w : World) (hn : np ≤ 1048576) (hcp : np ≤ cp) (hP : Pts w.heap.size w a np l) :
    Calls Tryd.prog 27 #[.slice a np cp] w fun e W' => ∃ v, e = .returned (.tuple #[v, .bool (stayV l)]) ∧ AnsT w.heap.size W'.heap.size W' v (stayR l) ∧ Below w.heap.size w W' := by
  obtain ⟨i0, hi0, hz0, hz1, hz2⟩ := info_parts Tryd.infoPt
  have hmx : Tryd.prog.follows .mixedOrders = true := by kernel_rfl
  have h1 := enough_any a np cp l w hP hn
  have hF : ∀ (h : stayV l = false), Hid (stayV l = false ∧ stayR l = []) := fun h => ⟨h, by unfold stayR; rw [h]; rfl⟩
  cases hen : enV l
  · have e1 := hF (by rw [Bool.eq_false_iff]; intro h; have h' := stayV_iff.1 h; rw [enV_iff.2 ⟨h'.1, h'.2.1⟩] at hen; cases hen)
    rw [hen] at h1
    go_enter Tryd.func27, Tryd.ntmps27
    go_wp2_with fail
    refine h1.mono ?_
    rintro e w1 ⟨rfl, J⟩
    go_wp2_with fail
    go_ret2
    exact ⟨_, by rw [e1.out.1]; rfl, .inl ⟨e1.out.2, _, _, rfl⟩, J⟩
  rw [hen] at h1
  obtain ⟨⟨hl1, hl2⟩, hok⟩ := enV_iff.1 hen
  obtain ⟨hlen, hP⟩ := hP
  have HL : Hid (l.length = np) := hlen
  have HOK : Hid (∀ i, i < np → okP (ptAt l i) = true) := fun i hi => hok i (by rw [hlen]; exact hi)
  rw [hlen] at hl1 hl2
  rcases hP with h0 | ⟨g, off, rfl, hg, hc⟩
  · omega
  have HC : Hid (∀ j, j < np → w.cell? ⟨g, off + j * 2, none⟩ = some (.int .i64 (ptAt l j).1) ∧ w.cell? ⟨g, off + j * 2 + 1, none⟩ = some (.int .i64 (ptAt l j).2)) := hc
  clear hlen hc hok hen
  obtain ⟨m, rfl⟩ : ∃ m, np = m + 1 := ⟨np - 1, by omega⟩
  obtain ⟨c, rfl⟩ : ∃ c, cp = c + 1 := ⟨cp - 1, by omega⟩
  have j1 : (1 : Int) ≤ ((m + 1 : Nat) : Int) := by omega
  have j2 : ((m + 1 : Nat) : Int) ≤ ((c + 1 : Nat) : Int) := by omega
  obtain ⟨d0, d1⟩ := HC.out 0 (by omega)
  simp only [Nat.zero_mul, Nat.add_zero] at d0 d1
  rcases Nat.eq_zero_or_pos m with hm | hm
  · subst hm
    have hl0 : l = [ptAt l 0] := by
      have h0 := HL.out
      match l, h0 with
      | [p], _ => simp [ptAt]
    have e2 : stayL l = [ptAt l 0] := by rw [hl0]; simp [stayL, stayG, ptAt]
    have e1 : Hid (stayV l = true ∧ stayR l = [ptAt l 0]) := by
      have hv : stayV l = true := stayV_iff.2 ⟨by rw [HL.out]; omega, fun i hi => HOK.out i (by rw [HL.out] at hi; exact hi), fun i hi => by rw [HL.out] at hi; omega, by rw [e2]; simp⟩
      exact ⟨hv, by unfold stayR; rw [hv, e2]; rfl⟩
    have hp1 : pathP [ptAt l 0] = true := pathP_iff.2 ⟨by simp, fun i hi => by obtain rfl : i = 0 := (by simpa using hi); rw [ptAt_zero]; exact HOK.out 0 (by omega), fun i hi => by simp at hi⟩
    clear e2 hl0
    have i3 : (0 : Int) < ((0 + 1 : Nat) : Int) := by omega
    go_enter Tryd.func27, Tryd.ntmps27
    go_wp2_with fail
    refine h1.mono ?_
    rintro e w1 ⟨rfl, J⟩
    obtain ⟨q0, q1⟩ := (⟨(J.cell (p := ⟨g, off, none⟩) hg).trans d0, (J.cell (p := ⟨g, off + 1, none⟩) hg).trans d1⟩ : _ ∧ _)
    have own0 : (w1.alloc (.cells #[.int .i64 (ptAt l 0).1, .int .i64 (ptAt l 0).2] 42)).ownsRow w.heap.size 42 2 (.slice (some ⟨w1.heap.size, 0, none⟩) 1 1) 1 (ptCells [ptAt l 0]) := own_lit (heap_new w1 _) J.size rfl (Nat.le_refl _) (by simp [maxLen]) rfl rfl
    have hIs := isPath_any (some ⟨w1.heap.size, 0, none⟩) 1 1 [ptAt l 0] (w1.alloc (.cells #[.int .i64 (ptAt l 0).1, .int .i64 (ptAt l 0).2] 42)) (Nat.le_refl _) ((blk_of_own own0 rfl).1.pts' rfl) (by omega)
    rw [hp1] at hIs
    go_wp2_with fail
    all_goals
      refine wp_loop_rounds 2 ?_
      rw [rounds_succ]
      go_wp2_with fail
      refine hIs.mono ?_
      rintro e w2 ⟨rfl, J2⟩
      go_wp2_with fail
      go_ret2
      refine ⟨_, by rw [e1.out.1]; rfl, ?_, bw_trans (bw_alloc J _) J2⟩
      rw [e1.out.2]
      exact AnsT.of_own (own0.kept (w' := w2) (row := none) ⟨J2.os, J2.tape, J2.output, J2.size, fun j hj _ => J2.block j hj⟩ (Classical.em _)) rfl
  · have hc0 : (c = 0) = False := by simp; omega
    have k1 : IntKind.i64.wrap ((m : Int)) = (m : Int) := wrap_small (by omega) (by omega)
    have i3 : (0 : Int) < (m : Int) + 1 := by omega
    go_enter Tryd.func27, Tryd.ntmps27
    go_wp2_with fail
    refine h1.mono ?_
    rintro e w1 ⟨rfl, J⟩
    obtain ⟨q0, q1⟩ := (⟨(J.cell (p := ⟨g, off, none⟩) hg).trans d0, (J.cell (p := ⟨g, off + 1, none⟩) hg).trans d1⟩ : _ ∧ _)
    go_wp2_with fail
    go_loopw [4, 19] (fun o i wr => ∃ k : Nat, k ≤ m ∧ i = .int .i64 k ∧ (∀ j, j < k → inlP (ptAt l j) (ptAt l (j + 1)) = true) ∧ wr.ownsRow w.heap.size 42 2 o (stayL (l.take (k + 1))).length (ptCells (stayL (l.take (k + 1)))) ∧ Below w.heap.size w wr) (fun _ i _ => m - (intOf i).toNat)
    case atStart => exact ⟨0, Nat.zero_le _, rfl, fun j hj => absurd hj (Nat.not_lt_zero _), by rw [stay_take1 (by rw [HL.out]; omega)]; exact own_lit (heap_new w1 _) J.size rfl (Nat.le_refl _) (by simp [maxLen]) rfl rfl, bw_alloc J _⟩
    case round =>
      obtain ⟨k, hk, rfl, hin, hown, hnx⟩ := hrel
      have HIN : Hid (∀ j, j < k → inlP (ptAt l j) (ptAt l (j + 1)) = true) := hin
      have hlen : (stayL (l.take (k + 1))).length ≤ 9 * k + 1 := by
        have e0 := stay_len_take (t := l.take (k + 1)) (fun i hi => by rw [List.length_take] at hi; rw [ptAt_take (by omega)]; exact HOK.out i (by omega)) k (by rw [List.length_take, HL.out]; omega) (fun i hi => by rw [ptAt_take (by omega), ptAt_take (by omega)]; exact HIN.out i (by omega))
        rwa [List.take_take, Nat.min_self] at e0
      clear hin
      have hzz := hnx.size
      by_cases hlt : k < m
      case neg =>
        obtain rfl : k = m := by omega
        have et : l.take (k + 1) = l := List.take_of_length_le (by rw [HL.out]; exact Nat.le_refl _)
        rw [et] at hown hlen
        have hPV := stay_pathP (t := l) (by rw [HL.out]; omega) (fun i hi => HOK.out i (by rw [HL.out] at hi; exact hi)) (fun i hi => HIN.out i (by rw [HL.out] at hi; omega)) (by rw [HL.out]; exact hl2)
        have hn1 : 1 ≤ (stayL l).length := by
          have e0 := stay_mono (t := l) (k := 1) (Nat.le_refl 1) k (by rw [HL.out]; omega)
          rw [stay_take1 (by rw [HL.out]; omega), Nat.add_comm 1 k, et] at e0
          exact e0
        obtain ⟨n, hn'⟩ : ∃ n, n = (stayL l).length := ⟨_, rfl⟩
        have HN : Hid ((stayL l).length = n) := hn'.symm
        rw [← hn'] at hown hlen hn1
        clear hn' et
        obtain ⟨g2, c2, rfl, _, _⟩ := hown.form (by omega)
        obtain ⟨hb3, hb4, _, _⟩ := blk_of_own hown HN.out
        have hIs := isPath_any (some ⟨g2, 0, none⟩) n c2 (stayL l) wr hb4 (hb3.pts' HN.out) (by omega)
        rw [hPV] at hIs
        clear hPV
        cases hv : stayV l
        · have e1 := hF hv
          rw [hv] at hIs
          go_wp2_with fail
          refine hIs.mono ?_
          rintro e w2 ⟨rfl, J2⟩
          go_wp2_with fail
          go_ret2
          exact ⟨_, by rw [e1.out.1]; rfl, .inl ⟨e1.out.2, _, _, rfl⟩, bw_trans hnx J2⟩
        · have e1 : Hid (stayV l = true) := hv
          have e2 : Hid (stayR l = stayL l) := by change _ = _; unfold stayR; rw [hv]; rfl
          rw [hv] at hIs
          go_wp2_with fail
          refine hIs.mono ?_
          rintro e w2 ⟨rfl, J2⟩
          go_wp2_with fail
          go_ret2
          exact ⟨_, by rw [e1.out]; rfl, by rw [e2.out]; exact AnsT.of_own (hown.kept (w' := w2) (row := none) ⟨J2.os, J2.tape, J2.output, J2.size, fun j hj _ => J2.block j hj⟩ (Classical.em _)) HN.out, bw_trans hnx J2⟩
      case pos =>
        obtain ⟨ax, hax⟩ : ∃ ax, ax = (ptAt l k).1 := ⟨_, rfl⟩
        obtain ⟨ay, hay⟩ : ∃ ay, ay = (ptAt l k).2 := ⟨_, rfl⟩
        obtain ⟨bx, hbx⟩ : ∃ bx, bx = (ptAt l (k + 1)).1 := ⟨_, rfl⟩
        obtain ⟨b_y, hby⟩ : ∃ b_y, b_y = (ptAt l (k + 1)).2 := ⟨_, rfl⟩
        have HA : Hid (ptAt l k = (ax, ay)) := by change _ = _; rw [hax, hay]
        have HB : Hid (ptAt l (k + 1) = (bx, b_y)) := by change _ = _; rw [hbx, hby]
        have i4 : (0 : Int) ≤ (k : Int) := Int.natCast_nonneg _
        have i5 : (k : Int) < (m : Int) := by omega
        have i6 : (k : Int) < (m : Int) + 1 := by omega
        obtain ⟨d0, d1⟩ := HC.out (k + 1) (by omega)
        obtain ⟨d2, d3⟩ := HC.out k (by omega)
        rw [HB.out] at d0 d1
        rw [HA.out] at d2 d3
        simp only at d0 d1 d2 d3
        have p0 := (hnx.cell (p := ⟨g, off + (k + 1) * 2, none⟩) hg).trans d0
        have p1 := (hnx.cell (p := ⟨g, off + (k + 1) * 2 + 1, none⟩) hg).trans d1
        rw [show off + (k + 1) * 2 = off + 2 + k * 2 by omega] at p0 p1
        obtain ⟨V, hV, BV, T6⟩ : ∃ V, V = wr.alloc (.cells #[.int .i64 bx, .int .i64 b_y] 42) ∧ Below wr.heap.size wr V ∧ V.heap[wr.heap.size]? = some (.cells #[.int .i64 bx, .int .i64 b_y] 42) := ⟨_, rfl, (by repeat (first | exact bw_refl _ | assumption | apply bw_drewN | apply bw_drew | apply bw_alloc | refine bw_set ?_ (by simp) _)), heap_new _ _⟩
        have hnV := bw_trans hnx BV
        have zT6 := blk_lt T6
        obtain ⟨t0, t1⟩ := blk_2 T6
        have hgV : g < V.heap.size := Nat.lt_of_lt_of_le hg hnV.size
        have hS0 : (fun u : World => u.cell? ⟨g, off + k * 2, none⟩ = some (.int .i64 ax) ∧ u.cell? ⟨g, off + k * 2 + 1, none⟩ = some (.int .i64 ay) ∧ u.cell? ⟨wr.heap.size, 0, none⟩ = some (.int .i64 bx) ∧ u.cell? ⟨wr.heap.size, 1, none⟩ = some (.int .i64 b_y)) V.drew := ⟨(hnV.cell (p := ⟨g, off + k * 2, none⟩) hg).trans d2, (hnV.cell (p := ⟨g, off + k * 2 + 1, none⟩) hg).trans d3, t0, t1⟩
        have X1 := fun V => step_any (ptAt l k) (ptAt l (k + 1)) V
        rw [HA.out, HB.out] at X1
        simp only [cmp_sg] at X1
        obtain ⟨d1x, hd1x⟩ : ∃ d, d = sg1 (bx - ax) := ⟨_, rfl⟩
        obtain ⟨d2x, hd2x⟩ : ∃ d, d = sg1 (b_y - ay) := ⟨_, rfl⟩
        rw [← hd1x, ← hd2x] at X1
        have HD : Hid (wayP (ptAt l k) (ptAt l (k + 1)) = (d1x, d2x)) := by change _ = _; rw [HA.out, HB.out, hd1x, hd2x]; rfl
        have bd1 := sg1_bd (bx - ax)
        have bd2 := sg1_bd (b_y - ay)
        rw [← hd1x] at bd1
        rw [← hd2x] at bd2
        replace X1 : Hid _ := X1
        clear d0 d1 d2 d3 hax hay hbx hby t0 t1 hd1x hd2x
        go_upto_region 7 with fail
        rw [← hV]
        clear hV p0 p1
        go_region_held3 (fun u : World => u.cell? ⟨g, off + k * 2, none⟩ = some (.int .i64 ax) ∧ u.cell? ⟨g, off + k * 2 + 1, none⟩ = some (.int .i64 ay) ∧ u.cell? ⟨wr.heap.size, 0, none⟩ = some (.int .i64 bx) ∧ u.cell? ⟨wr.heap.size, 1, none⟩ = some (.int .i64 b_y)) (first | exact hS0 | exact cB4 K hS0 | exact cA4 hS0 | exact cB4 K (cA4 hS0) | exact cA4 (cB4 K hS0) | exact cS4 (cB4 K (cA4 hS0)) (by dsimp only; omega) (by dsimp only; omega) (by dsimp only; omega) (by dsimp only; omega)) (first | (go_at_call 41; (with_reducible refine (X1.out _).mono ?_); rintro e v1 ⟨rfl, K⟩; (try (have T7 : v1.heap[V.heap.size]? = some (.cells #[.int .i64 0, .int .i64 0] 42) := keep K (heap_new V.drew (.cells #[.int .i64 0, .int .i64 0] 42)); obtain ⟨y0, y1, y2, y3⟩ := blk2 T7))))
        · skip
          obtain ⟨Wz, hWz⟩ : ∃ Wz, Wz = v1.alloc (.cells #[.int .i64 d1x, .int .i64 d2x] 42) := ⟨_, rfl⟩
          have KB : Below V.heap.size V v1 := bw_trans (show Below V.heap.size V V.drew from bw_drew (bw_refl _)) K
          have zV1 := KB.size
          have M7 : Wz.heap[v1.heap.size]? = some (.cells #[.int .i64 d1x, .int .i64 d2x] 42) := by rw [hWz]; exact heap_new v1 _
          have BZ : Below V.heap.size V Wz := by rw [hWz]; exact bw_alloc KB _
          have zb7 : wr.heap.size < v1.heap.size ∧ v1.heap.size < Wz.heap.size := ⟨by omega, by rw [hWz]; simp⟩
          have nz := bw_trans hnV BZ
          have M6 := keep BZ T6
          have hownz := hown.kept (w' := Wz) (row := none) ⟨(bw_trans BV BZ).os, (bw_trans BV BZ).tape, (bw_trans BV BZ).output, (bw_trans BV BZ).size, fun j hj _ => (bw_trans BV BZ).block j hj⟩ (Classical.em _)
          have hob : ∀ b, u4.ownBlock = some b → b < wr.heap.size := fun b e => (hown.lt b e).2
          rw [← hWz]
          clear hWz K KB hS0 BV BZ hnV T6 hown
          generalize v1.heap.size = b7 at *
          generalize wr.heap.size = b6 at *
          have zw := nz.size
          obtain ⟨t0, t1⟩ := blk_2 M7
          have hSq := square_small d1x d2x
          obtain ⟨z, hz⟩ : ∃ z, z = dt 0 0 d1x d2x d1x d2x := ⟨_, rfl⟩
          have HZ : Hid (inlP (ptAt l k) (ptAt l (k + 1)) = decide (z = 1)) := by change _ = _; rw [inlP_way, HD.out, hz]
          rw [← hz] at hSq
          clear hz
          by_cases hz1' : z = 1
          case neg =>
            have e1 := hF (stayV_inl (i := k) (by rw [HL.out]; omega) (by rw [HZ.out]; exact decide_eq_false hz1'))
            have z1 : (z != 1) = true := by simpa using hz1'
            have z2 : (z == 1) = false := by simpa using hz1'
            clear hz1'
            go_wp2_with fail
            refine (hSq _ bd1 bd2).mono ?_
            rintro e v8 ⟨rfl, J8⟩
            go_wp2_with fail
            go_ret2
            exact ⟨_, by rw [e1.out.1]; rfl, .inl ⟨e1.out.2, _, _, rfl⟩, bw_trans nz J8⟩
          case pos =>
            have hil : inlP (ptAt l k) (ptAt l (k + 1)) = true := by rw [HZ.out]; exact decide_eq_true hz1'
            subst hz1'
            clear HZ
            go_wp2_with fail
            refine (hSq _ bd1 bd2).mono ?_
            rintro e v8 ⟨rfl, J8⟩
            replace M6 := keep J8 M6
            replace M7 := keep J8 M7
            have hown8 := hownz.kept (w' := v8) (row := none) ⟨J8.os, J8.tape, J8.output, J8.size, fun j hj _ => J8.block j hj⟩ (Classical.em _)
            have n8 := bw_trans nz J8
            have z8 := J8.size
            have zn8 := n8.size
            obtain ⟨c2, c3⟩ := HC.out k (by omega)
            rw [HA.out] at c2 c3
            simp only at c2 c3
            have p2 := (n8.cell (p := ⟨g, off + k * 2, none⟩) hg).trans c2
            have p3 := (n8.cell (p := ⟨g, off + k * 2 + 1, none⟩) hg).trans c3
            clear c2 c3 hownz t0 t1
            obtain ⟨n, hnn⟩ : ∃ n, n = distP (ptAt l k) (ptAt l (k + 1)) := ⟨_, rfl⟩
            obtain ⟨M, hM⟩ : ∃ M, M = (stayL (l.take (k + 1))).length := ⟨_, rfl⟩
            obtain ⟨d, hd⟩ : ∃ d, d = wayP (ptAt l k) (ptAt l (k + 1)) := ⟨_, rfl⟩
            have HD1 : Hid (d.1 = d1x ∧ d.2 = d2x) := by change _ ∧ _; rw [hd, HD.out]; exact ⟨rfl, rfl⟩
            have HD0 : Hid (d = wayP (ptAt l k) (ptAt l (k + 1)) ∧ n = distP (ptAt l k) (ptAt l (k + 1))) := ⟨hd, hnn⟩
            have hok' := HOK.out k (by omega)
            have hoB := HOK.out (k + 1) (by omega)
            have HLEG : Hid (∀ j, j < n → addP (ptAt l k) d j ≠ (bx, b_y)) := fun j hj => by rw [hd, ← HB.out]; exact (leg_at hil (by rw [← hnn]; exact hj)).2
            have HBD : Hid (∀ j, j ≤ n → okP (addP (ptAt l k) d j) = true) := fun j hj => by rw [hd]; exact leg_bd hil hok' hoB (by rw [← hnn]; exact hj)
            have HEND : Hid (addP (ptAt l k) d n = (bx, b_y)) := by change _ = _; rw [hd, hnn, leg_end hil, HB.out]
            have hn9 : n ≤ 9 := by rw [hnn]; exact distP_ok hok' hoB hil
            have HIL : Hid (inlP (ptAt l k) (ptAt l (k + 1)) = true) := hil
            rw [← hM] at hown8 hlen
            have HM : Hid ((stayL (l.take (k + 1))).length = M) := hM.symm
            have hm1 : 1 ≤ M := by
              rw [hM]
              have e0 := stay_mono (t := l) (k := 1) (Nat.le_refl 1) k (by rw [HL.out]; omega)
              rw [stay_take1 (by rw [HL.out]; omega), Nat.add_comm 1 k] at e0
              exact e0
            clear hM hd hnn hil hok' hoB
            go_wp2_with fail
            have zb8 : b6 < v8.heap.size ∧ b7 < v8.heap.size := ⟨blk_lt M6, blk_lt M7⟩
            have hob8 : ∀ b, u4.ownBlock = some b → b ≠ b6 ∧ b ≠ b7 ∧ b ≠ v8.heap.size := fun b e => by have := hob b e; omega
            have M8 : (v8.alloc (.cells #[.int .i64 ax, .int .i64 ay] 42)).heap[v8.heap.size]? = some (.cells #[.int .i64 ax, .int .i64 ay] 42) := heap_new v8 _
            replace M6 := (Below.heap_alloc v8 (.cells #[.int .i64 ax, .int .i64 ay] 42) _ (blk_lt M6)).trans M6
            replace M7 := (Below.heap_alloc v8 (.cells #[.int .i64 ax, .int .i64 ay] 42) _ (blk_lt M7)).trans M7
            go_loopw [4, 8] (fun o q wr => ∃ (j b8 : Nat), q = .pointer (some ⟨b8, 0, none⟩) ∧ j ≤ n ∧ wr.ownsRow w.heap.size 42 2 o (M + j) (ptCells (stayL (l.take (k + 1)) ++ lineL (ptAt l k) d j)) ∧ (∀ b, o.ownBlock = some b → b ≠ b6 ∧ b ≠ b7 ∧ b ≠ b8) ∧ wr.heap[b8]? = some (.cells #[.int .i64 (addP (ptAt l k) d j).1, .int .i64 (addP (ptAt l k) d j).2] 42) ∧ wr.heap[b7]? = some (.cells #[.int .i64 d1x, .int .i64 d2x] 42) ∧ wr.heap[b6]? = some (.cells #[.int .i64 bx, .int .i64 b_y] 42) ∧ (w.heap.size ≤ b8 ∧ b8 ≠ b7 ∧ b8 ≠ b6) ∧ Below w.heap.size w wr) (fun o _ _ => M + n - lenOf o)
            case atStart => exact ⟨0, v8.heap.size, rfl, Nat.zero_le _, by rw [show lineL (ptAt l k) d 0 = [] from rfl, List.append_nil]; exact hown8.alloc _, hob8, by rw [addP_zero, HA.out]; exact M8, M7, M6, ⟨zn8, by omega, by omega⟩, bw_alloc n8 _⟩
            case round =>
              obtain ⟨j, b8, rfl, hj, hown', hob', N8, N7, N6, ⟨hb8a, hb8b, hb8c⟩, nz'⟩ := hrel
              obtain ⟨g2, c2, rfl, _, _⟩ := hown'.form (by omega)
              have ztz := nz'.size
              by_cases hjn : j < n
              case neg =>
                obtain rfl : j = n := by omega
                rw [HEND.out] at N8
                obtain ⟨s1, s2⟩ := blk_2 N8
                obtain ⟨s3, s4⟩ := blk_2 N6
                go_wp2_with fail
                go_roundw
                case rel =>
                  refine ⟨k + 1, by omega, by simp, ?_, ?_, nz'⟩
                  · intro j' hj'
                    rcases Nat.lt_or_ge j' k with h | h
                    · exact HIN.out j' h
                    · obtain rfl : j' = k := (by omega)
                      exact HIL.out
                  · have es : stayL (l.take (k + 1 + 1)) = stayL (l.take (k + 1)) ++ lineL (ptAt l k) d j := by
                      rw [stay_take (by rw [HL.out]; omega), HD0.out.1, HD0.out.2]; rfl
                    rw [es, List.length_append, lineL_len, HM.out]
                    exact hown'
                case measure => simp [intOf]; omega
              case pos =>
                obtain ⟨ux, hux⟩ : ∃ ux, ux = (addP (ptAt l k) d j).1 := ⟨_, rfl⟩
                obtain ⟨uy, huy⟩ : ∃ uy, uy = (addP (ptAt l k) d j).2 := ⟨_, rfl⟩
                have HU : Hid (addP (ptAt l k) d j = (ux, uy)) := by change _ = _; rw [hux, huy]
                have hne := HLEG.out j hjn
                have hbu := HBD.out j (by omega)
                rw [HU.out] at hne hbu
                rw [← hux, ← huy] at N8
                have hbu := (ptB_iff _ _).1 hbu
                simp only at hbu
                obtain ⟨a0, a1, a2, a3⟩ := hbu
                have k3 : IntKind.i64.wrap (ux + d1x) = ux + d1x := wrap_small (by omega) (by omega)
                have k4 : IntKind.i64.wrap (uy + d2x) = uy + d2x := wrap_small (by omega) (by omega)
                clear hux huy
                obtain ⟨s1, s2, s5, s6⟩ := blk2 N8
                obtain ⟨s3, s4⟩ := blk_2 N6
                obtain ⟨s7, s8⟩ := blk_2 N7
                have hcase : (ux = bx ∧ ¬ uy = b_y) ∨ ¬ ux = bx := by
                  by_cases h : ux = bx
                  · exact .inl ⟨h, fun h' => hne (by rw [h, h'])⟩
                  · exact .inr h
                obtain ⟨Wf, hWf⟩ : ∃ Wf, Wf = (wr.setCell ⟨b8, 0, none⟩ (.int .i64 (ux + d1x))).setCell ⟨b8, 1, none⟩ (.int .i64 (uy + d2x)) := ⟨_, rfl⟩
                have F8 : Wf.heap[b8]? = some (.cells #[.int .i64 (ux+d1x), .int .i64 (uy+d2x)] 42) := by rw [hWf, setCell_row (setCell_row N8 _) _]; rfl
                have F7 : Wf.heap[b7]? = some (.cells #[.int .i64 d1x, .int .i64 d2x] 42) := by rw [hWf]; exact set_oth (set_oth N7 (Ne.symm hb8b)) (Ne.symm hb8b)
                have F6 : Wf.heap[b6]? = some (.cells #[.int .i64 bx, .int .i64 b_y] 42) := by rw [hWf]; exact set_oth (set_oth N6 (Ne.symm hb8c)) (Ne.symm hb8c)
                have Gf : wr.grownBy Wf (some b8) := by
                  rw [hWf]
                  refine ⟨rfl, rfl, rfl, by simp, fun q hq hqne => ?_⟩
                  have hkne : q ≠ b8 := fun e => hqne (by rw [e])
                  rw [Below.heap_setCell _ _ _ _ (by show q ≠ b8; exact hkne), Below.heap_setCell _ _ _ _ (by show q ≠ b8; exact hkne)]
                obtain ⟨ho6, ho7, ho8⟩ := hob' g2 rfl
                have hownf := hown'.kept Gf (.inr (fun e => ho8 (Option.some.inj e)))
                have nf : Below w.heap.size w Wf := by rw [hWf]; exact bw_set (bw_set nz' hb8a _) hb8a _
                have zf := nf.size
                have zF8 := blk_lt F8
                have zF7 := blk_lt F7
                have zF6 := blk_lt F6
                have HS : Hid (addP (ptAt l k) d (j + 1) = (ux + d1x, uy + d2x)) := by
                  change _ = _
                  rw [← addP_one, HU.out, HD1.out.1, HD1.out.2]
                obtain ⟨p0, p1⟩ := blk_2 F8
                clear Gf hne
                rcases hcase with ⟨hcx, hcy⟩ | hcx
                · have x1 : (ux == bx) = true := by simpa using hcx
                  have x2 : (ux = bx) = True := by simpa using hcx
                  have x3 : (ux != bx) = false := by unfold bne; rw [x1]; rfl
                  have x4 : (uy == b_y) = false := by simpa using hcy
                  have x5 : (uy = b_y) = False := by simpa using hcy
                  have x6 : (uy != b_y) = true := by unfold bne; rw [x4]; rfl
                  clear hcx hcy
                  go_upto_region 13 with fail
                  rw [← hWf]
                  clear hWf s1 s2 s3 s4 s5 s6 s7 s8 N8 N7 N6
                  go_wp2_with (at_builtin; refine wpList_append_lies _ rfl _ _ _ rfl w.heap.size 42 i0 _ 2 16 Tryd.underlying23 hi0 hz0 hz1 hz2 rfl (by omega) _ _ _ rfl (hownf.alloc _) ⟨Wf.heap.size, 0, none⟩ 1 1 [.int .i64 (ux + d1x), .int .i64 (uy + d2x)] rfl rfl (World.news_of_block (cs := #[.int .i64 (ux + d1x), .int .i64 (uy + d2x)]) (t := 42) (fr := (0, 0)) (heap_alloc_new Wf _)) (by simp [Value.oneCell']) (by omega) (by simp [maxLen]; omega) (by omega) (by simp; omega) (Wf.heap.size + 1) (by simp) ?_; intro gg cap' w8 hown1 hgrow hat hlt1; have keepBlk : ∀ b o, Wf.heap[b]? = some o → b ≠ g2 → w8.heap[b]? = some o := fun b o hb hbn => (hgrow.block b (by have := blk_lt hb; simp; omega) (fun e => hbn (Option.some.inj e))).trans ((Below.heap_alloc _ _ _ (blk_lt hb)).trans hb); obtain ⟨r0, r1⟩ := blk_2 (keepBlk _ _ F8 (Ne.symm ho8)); have zw8 := hgrow.size; rw [World.size_alloc] at zw8)
                  go_roundw
                  case rel =>
                    refine ⟨j + 1, w8.heap.size, rfl, by omega, ?_, ?_, ?_, ?_, ?_, ⟨by omega, by omega, by omega⟩, bw_alloc ((nf.alloc nf.size _).grown hgrow (by simp; omega) (fun q e => (hownf.lt q e).1)) _⟩
                    · have e1 : ptCells (stayL (l.take (k + 1)) ++ lineL (ptAt l k) d (j + 1)) = ptCells (stayL (l.take (k + 1)) ++ lineL (ptAt l k) d j) ++ [.int .i64 (ux + d1x), .int .i64 (uy + d2x)] := by
                        rw [lineL_snoc, HS.out, ← List.append_assoc, ptCells_snoc]
                      rw [e1]
                      exact hown1.alloc _
                    · intro b e
                      obtain rfl : gg = b := Option.some.inj e
                      refine ⟨?_, ?_, by omega⟩
                      · rcases hat with h | h
                        · obtain rfl : g2 = gg := Option.some.inj h
                          exact ho6
                        · omega
                      · rcases hat with h | h
                        · obtain rfl : g2 = gg := Option.some.inj h
                          exact ho7
                        · omega
                    · rw [HS.out]; exact heap_new w8 _
                    · exact (Below.heap_alloc w8 _ _ (blk_lt (keepBlk _ _ F7 (Ne.symm ho7)))).trans (keepBlk _ _ F7 (Ne.symm ho7))
                    · exact (Below.heap_alloc w8 _ _ (blk_lt (keepBlk _ _ F6 (Ne.symm ho6)))).trans (keepBlk _ _ F6 (Ne.symm ho6))
                  case measure => simp [lenOf]; omega
                · have x1 : (ux == bx) = false := by simpa using hcx
                  have x2 : (ux = bx) = False := by simpa using hcx
                  have x3 : (ux != bx) = true := by unfold bne; rw [x1]; rfl
                  clear hcx
                  go_upto_region 13 with fail
                  rw [← hWf]
                  clear hWf s1 s2 s3 s4 s5 s6 s7 s8 N8 N7 N6
                  go_wp2_with (at_builtin; refine wpList_append_lies _ rfl _ _ _ rfl w.heap.size 42 i0 _ 2 16 Tryd.underlying23 hi0 hz0 hz1 hz2 rfl (by omega) _ _ _ rfl (hownf.alloc _) ⟨Wf.heap.size, 0, none⟩ 1 1 [.int .i64 (ux + d1x), .int .i64 (uy + d2x)] rfl rfl (World.news_of_block (cs := #[.int .i64 (ux + d1x), .int .i64 (uy + d2x)]) (t := 42) (fr := (0, 0)) (heap_alloc_new Wf _)) (by simp [Value.oneCell']) (by omega) (by simp [maxLen]; omega) (by omega) (by simp; omega) (Wf.heap.size + 1) (by simp) ?_; intro gg cap' w8 hown1 hgrow hat hlt1; have keepBlk : ∀ b o, Wf.heap[b]? = some o → b ≠ g2 → w8.heap[b]? = some o := fun b o hb hbn => (hgrow.block b (by have := blk_lt hb; simp; omega) (fun e => hbn (Option.some.inj e))).trans ((Below.heap_alloc _ _ _ (blk_lt hb)).trans hb); obtain ⟨r0, r1⟩ := blk_2 (keepBlk _ _ F8 (Ne.symm ho8)); have zw8 := hgrow.size; rw [World.size_alloc] at zw8)
                  go_roundw
                  case rel =>
                    refine ⟨j + 1, w8.heap.size, rfl, by omega, ?_, ?_, ?_, ?_, ?_, ⟨by omega, by omega, by omega⟩, bw_alloc ((nf.alloc nf.size _).grown hgrow (by simp; omega) (fun q e => (hownf.lt q e).1)) _⟩
                    · have e1 : ptCells (stayL (l.take (k + 1)) ++ lineL (ptAt l k) d (j + 1)) = ptCells (stayL (l.take (k + 1)) ++ lineL (ptAt l k) d j) ++ [.int .i64 (ux + d1x), .int .i64 (uy + d2x)] := by
                        rw [lineL_snoc, HS.out, ← List.append_assoc, ptCells_snoc]
                      rw [e1]
                      exact hown1.alloc _
                    · intro b e
                      obtain rfl : gg = b := Option.some.inj e
                      refine ⟨?_, ?_, by omega⟩
                      · rcases hat with h | h
                        · obtain rfl : g2 = gg := Option.some.inj h
                          exact ho6
                        · omega
                      · rcases hat with h | h
                        · obtain rfl : g2 = gg := Option.some.inj h
                          exact ho7
                        · omega
                    · rw [HS.out]; exact heap_new w8 _
                    · exact (Below.heap_alloc w8 _ _ (blk_lt (keepBlk _ _ F7 (Ne.symm ho7)))).trans (keepBlk _ _ F7 (Ne.symm ho7))
                    · exact (Below.heap_alloc w8 _ _ (blk_lt (keepBlk _ _ F6 (Ne.symm ho6)))).trans (keepBlk _ _ F6 (Ne.symm ho6))
                  case measure => simp [lenOf]; omega
        · skip
          obtain ⟨Wz, hWz⟩ : ∃ Wz, Wz = (v1.setCell ⟨V.heap.size, 0, none⟩ (.int .i64 d1x)).setCell ⟨V.heap.size, 1, none⟩ (.int .i64 d2x) := ⟨_, rfl⟩
          have KB : Below V.heap.size V v1 := bw_trans (bw_drew (bw_alloc (bw_refl _) _)) K
          have zV1 := KB.size
          have M7 : Wz.heap[V.heap.size]? = some (.cells #[.int .i64 d1x, .int .i64 d2x] 42) := by rw [hWz, setCell_row (setCell_row T7 _) _]; rfl
          have zT7 := blk_lt T7
          have BZ : Below V.heap.size V Wz := by rw [hWz]; exact bw_set (bw_set KB (Nat.le_refl _) _) (Nat.le_refl _) _
          have zb7 : wr.heap.size < V.heap.size ∧ V.heap.size < Wz.heap.size := ⟨zT6, by rw [hWz]; simpa using zT7⟩
          have nz := bw_trans hnV BZ
          have M6 := keep BZ T6
          have hownz := hown.kept (w' := Wz) (row := none) ⟨(bw_trans BV BZ).os, (bw_trans BV BZ).tape, (bw_trans BV BZ).output, (bw_trans BV BZ).size, fun j hj _ => (bw_trans BV BZ).block j hj⟩ (Classical.em _)
          have hob : ∀ b, u4.ownBlock = some b → b < wr.heap.size := fun b e => (hown.lt b e).2
          rw [← hWz]
          clear hWz K KB T7 y0 y1 y2 y3 zT7 hS0 BV BZ hnV T6 hown
          generalize V.heap.size = b7 at *
          generalize wr.heap.size = b6 at *
          have zw := nz.size
          obtain ⟨t0, t1⟩ := blk_2 M7
          have hSq := square_small d1x d2x
          obtain ⟨z, hz⟩ : ∃ z, z = dt 0 0 d1x d2x d1x d2x := ⟨_, rfl⟩
          have HZ : Hid (inlP (ptAt l k) (ptAt l (k + 1)) = decide (z = 1)) := by change _ = _; rw [inlP_way, HD.out, hz]
          rw [← hz] at hSq
          clear hz
          by_cases hz1' : z = 1
          case neg =>
            have e1 := hF (stayV_inl (i := k) (by rw [HL.out]; omega) (by rw [HZ.out]; exact decide_eq_false hz1'))
            have z1 : (z != 1) = true := by simpa using hz1'
            have z2 : (z == 1) = false := by simpa using hz1'
            clear hz1'
            go_wp2_with fail
            refine (hSq _ bd1 bd2).mono ?_
            rintro e v8 ⟨rfl, J8⟩
            go_wp2_with fail
            go_ret2
            exact ⟨_, by rw [e1.out.1]; rfl, .inl ⟨e1.out.2, _, _, rfl⟩, bw_trans nz J8⟩
          case pos =>
            have hil : inlP (ptAt l k) (ptAt l (k + 1)) = true := by rw [HZ.out]; exact decide_eq_true hz1'
            subst hz1'
            clear HZ
            go_wp2_with fail
            refine (hSq _ bd1 bd2).mono ?_
            rintro e v8 ⟨rfl, J8⟩
            replace M6 := keep J8 M6
            replace M7 := keep J8 M7
            have hown8 := hownz.kept (w' := v8) (row := none) ⟨J8.os, J8.tape, J8.output, J8.size, fun j hj _ => J8.block j hj⟩ (Classical.em _)
            have n8 := bw_trans nz J8
            have z8 := J8.size
            have zn8 := n8.size
            obtain ⟨c2, c3⟩ := HC.out k (by omega)
            rw [HA.out] at c2 c3
            simp only at c2 c3
            have p2 := (n8.cell (p := ⟨g, off + k * 2, none⟩) hg).trans c2
            have p3 := (n8.cell (p := ⟨g, off + k * 2 + 1, none⟩) hg).trans c3
            clear c2 c3 hownz t0 t1
            obtain ⟨n, hnn⟩ : ∃ n, n = distP (ptAt l k) (ptAt l (k + 1)) := ⟨_, rfl⟩
            obtain ⟨M, hM⟩ : ∃ M, M = (stayL (l.take (k + 1))).length := ⟨_, rfl⟩
            obtain ⟨d, hd⟩ : ∃ d, d = wayP (ptAt l k) (ptAt l (k + 1)) := ⟨_, rfl⟩
            have HD1 : Hid (d.1 = d1x ∧ d.2 = d2x) := by change _ ∧ _; rw [hd, HD.out]; exact ⟨rfl, rfl⟩
            have HD0 : Hid (d = wayP (ptAt l k) (ptAt l (k + 1)) ∧ n = distP (ptAt l k) (ptAt l (k + 1))) := ⟨hd, hnn⟩
            have hok' := HOK.out k (by omega)
            have hoB := HOK.out (k + 1) (by omega)
            have HLEG : Hid (∀ j, j < n → addP (ptAt l k) d j ≠ (bx, b_y)) := fun j hj => by rw [hd, ← HB.out]; exact (leg_at hil (by rw [← hnn]; exact hj)).2
            have HBD : Hid (∀ j, j ≤ n → okP (addP (ptAt l k) d j) = true) := fun j hj => by rw [hd]; exact leg_bd hil hok' hoB (by rw [← hnn]; exact hj)
            have HEND : Hid (addP (ptAt l k) d n = (bx, b_y)) := by change _ = _; rw [hd, hnn, leg_end hil, HB.out]
            have hn9 : n ≤ 9 := by rw [hnn]; exact distP_ok hok' hoB hil
            have HIL : Hid (inlP (ptAt l k) (ptAt l (k + 1)) = true) := hil
            rw [← hM] at hown8 hlen
            have HM : Hid ((stayL (l.take (k + 1))).length = M) := hM.symm
            have hm1 : 1 ≤ M := by
              rw [hM]
              have e0 := stay_mono (t := l) (k := 1) (Nat.le_refl 1) k (by rw [HL.out]; omega)
              rw [stay_take1 (by rw [HL.out]; omega), Nat.add_comm 1 k] at e0
              exact e0
            clear hM hd hnn hil hok' hoB
            go_wp2_with fail
            have zb8 : b6 < v8.heap.size ∧ b7 < v8.heap.size := ⟨blk_lt M6, blk_lt M7⟩
            have hob8 : ∀ b, u4.ownBlock = some b → b ≠ b6 ∧ b ≠ b7 ∧ b ≠ v8.heap.size := fun b e => by have := hob b e; omega
            have M8 : (v8.alloc (.cells #[.int .i64 ax, .int .i64 ay] 42)).heap[v8.heap.size]? = some (.cells #[.int .i64 ax, .int .i64 ay] 42) := heap_new v8 _
            replace M6 := (Below.heap_alloc v8 (.cells #[.int .i64 ax, .int .i64 ay] 42) _ (blk_lt M6)).trans M6
            replace M7 := (Below.heap_alloc v8 (.cells #[.int .i64 ax, .int .i64 ay] 42) _ (blk_lt M7)).trans M7
            go_loopw [4, 8] (fun o q wr => ∃ (j b8 : Nat), q = .pointer (some ⟨b8, 0, none⟩) ∧ j ≤ n ∧ wr.ownsRow w.heap.size 42 2 o (M + j) (ptCells (stayL (l.take (k + 1)) ++ lineL (ptAt l k) d j)) ∧ (∀ b, o.ownBlock = some b → b ≠ b6 ∧ b ≠ b7 ∧ b ≠ b8) ∧ wr.heap[b8]? = some (.cells #[.int .i64 (addP (ptAt l k) d j).1, .int .i64 (addP (ptAt l k) d j).2] 42) ∧ wr.heap[b7]? = some (.cells #[.int .i64 d1x, .int .i64 d2x] 42) ∧ wr.heap[b6]? = some (.cells #[.int .i64 bx, .int .i64 b_y] 42) ∧ (w.heap.size ≤ b8 ∧ b8 ≠ b7 ∧ b8 ≠ b6) ∧ Below w.heap.size w wr) (fun o _ _ => M + n - lenOf o)
            case atStart => exact ⟨0, v8.heap.size, rfl, Nat.zero_le _, by rw [show lineL (ptAt l k) d 0 = [] from rfl, List.append_nil]; exact hown8.alloc _, hob8, by rw [addP_zero, HA.out]; exact M8, M7, M6, ⟨zn8, by omega, by omega⟩, bw_alloc n8 _⟩
            case round =>
              obtain ⟨j, b8, rfl, hj, hown', hob', N8, N7, N6, ⟨hb8a, hb8b, hb8c⟩, nz'⟩ := hrel
              obtain ⟨g2, c2, rfl, _, _⟩ := hown'.form (by omega)
              have ztz := nz'.size
              by_cases hjn : j < n
              case neg =>
                obtain rfl : j = n := by omega
                rw [HEND.out] at N8
                obtain ⟨s1, s2⟩ := blk_2 N8
                obtain ⟨s3, s4⟩ := blk_2 N6
                go_wp2_with fail
                go_roundw
                case rel =>
                  refine ⟨k + 1, by omega, by simp, ?_, ?_, nz'⟩
                  · intro j' hj'
                    rcases Nat.lt_or_ge j' k with h | h
                    · exact HIN.out j' h
                    · obtain rfl : j' = k := (by omega)
                      exact HIL.out
                  · have es : stayL (l.take (k + 1 + 1)) = stayL (l.take (k + 1)) ++ lineL (ptAt l k) d j := by
                      rw [stay_take (by rw [HL.out]; omega), HD0.out.1, HD0.out.2]; rfl
                    rw [es, List.length_append, lineL_len, HM.out]
                    exact hown'
                case measure => simp [intOf]; omega
              case pos =>
                obtain ⟨ux, hux⟩ : ∃ ux, ux = (addP (ptAt l k) d j).1 := ⟨_, rfl⟩
                obtain ⟨uy, huy⟩ : ∃ uy, uy = (addP (ptAt l k) d j).2 := ⟨_, rfl⟩
                have HU : Hid (addP (ptAt l k) d j = (ux, uy)) := by change _ = _; rw [hux, huy]
                have hne := HLEG.out j hjn
                have hbu := HBD.out j (by omega)
                rw [HU.out] at hne hbu
                rw [← hux, ← huy] at N8
                have hbu := (ptB_iff _ _).1 hbu
                simp only at hbu
                obtain ⟨a0, a1, a2, a3⟩ := hbu
                have k3 : IntKind.i64.wrap (ux + d1x) = ux + d1x := wrap_small (by omega) (by omega)
                have k4 : IntKind.i64.wrap (uy + d2x) = uy + d2x := wrap_small (by omega) (by omega)
                clear hux huy
                obtain ⟨s1, s2, s5, s6⟩ := blk2 N8
                obtain ⟨s3, s4⟩ := blk_2 N6
                obtain ⟨s7, s8⟩ := blk_2 N7
                have hcase : (ux = bx ∧ ¬ uy = b_y) ∨ ¬ ux = bx := by
                  by_cases h : ux = bx
                  · exact .inl ⟨h, fun h' => hne (by rw [h, h'])⟩
                  · exact .inr h
                obtain ⟨Wf, hWf⟩ : ∃ Wf, Wf = (wr.setCell ⟨b8, 0, none⟩ (.int .i64 (ux + d1x))).setCell ⟨b8, 1, none⟩ (.int .i64 (uy + d2x)) := ⟨_, rfl⟩
                have F8 : Wf.heap[b8]? = some (.cells #[.int .i64 (ux+d1x), .int .i64 (uy+d2x)] 42) := by rw [hWf, setCell_row (setCell_row N8 _) _]; rfl
                have F7 : Wf.heap[b7]? = some (.cells #[.int .i64 d1x, .int .i64 d2x] 42) := by rw [hWf]; exact set_oth (set_oth N7 (Ne.symm hb8b)) (Ne.symm hb8b)
                have F6 : Wf.heap[b6]? = some (.cells #[.int .i64 bx, .int .i64 b_y] 42) := by rw [hWf]; exact set_oth (set_oth N6 (Ne.symm hb8c)) (Ne.symm hb8c)
                have Gf : wr.grownBy Wf (some b8) := by
                  rw [hWf]
                  refine ⟨rfl, rfl, rfl, by simp, fun q hq hqne => ?_⟩
                  have hkne : q ≠ b8 := fun e => hqne (by rw [e])
                  rw [Below.heap_setCell _ _ _ _ (by show q ≠ b8; exact hkne), Below.heap_setCell _ _ _ _ (by show q ≠ b8; exact hkne)]
                obtain ⟨ho6, ho7, ho8⟩ := hob' g2 rfl
                have hownf := hown'.kept Gf (.inr (fun e => ho8 (Option.some.inj e)))
                have nf : Below w.heap.size w Wf := by rw [hWf]; exact bw_set (bw_set nz' hb8a _) hb8a _
                have zf := nf.size
                have zF8 := blk_lt F8
                have zF7 := blk_lt F7
                have zF6 := blk_lt F6
                have HS : Hid (addP (ptAt l k) d (j + 1) = (ux + d1x, uy + d2x)) := by
                  change _ = _
                  rw [← addP_one, HU.out, HD1.out.1, HD1.out.2]
                obtain ⟨p0, p1⟩ := blk_2 F8
                clear Gf hne
                rcases hcase with ⟨hcx, hcy⟩ | hcx
                · have x1 : (ux == bx) = true := by simpa using hcx
                  have x2 : (ux = bx) = True := by simpa using hcx
                  have x3 : (ux != bx) = false := by unfold bne; rw [x1]; rfl
                  have x4 : (uy == b_y) = false := by simpa using hcy
                  have x5 : (uy = b_y) = False := by simpa using hcy
                  have x6 : (uy != b_y) = true := by unfold bne; rw [x4]; rfl
                  clear hcx hcy
                  go_upto_region 13 with fail
                  rw [← hWf]
                  clear hWf s1 s2 s3 s4 s5 s6 s7 s8 N8 N7 N6
                  go_wp2_with (at_builtin; refine wpList_append_lies _ rfl _ _ _ rfl w.heap.size 42 i0 _ 2 16 Tryd.underlying23 hi0 hz0 hz1 hz2 rfl (by omega) _ _ _ rfl (hownf.alloc _) ⟨Wf.heap.size, 0, none⟩ 1 1 [.int .i64 (ux + d1x), .int .i64 (uy + d2x)] rfl rfl (World.news_of_block (cs := #[.int .i64 (ux + d1x), .int .i64 (uy + d2x)]) (t := 42) (fr := (0, 0)) (heap_alloc_new Wf _)) (by simp [Value.oneCell']) (by omega) (by simp [maxLen]; omega) (by omega) (by simp; omega) (Wf.heap.size + 1) (by simp) ?_; intro gg cap' w8 hown1 hgrow hat hlt1; have keepBlk : ∀ b o, Wf.heap[b]? = some o → b ≠ g2 → w8.heap[b]? = some o := fun b o hb hbn => (hgrow.block b (by have := blk_lt hb; simp; omega) (fun e => hbn (Option.some.inj e))).trans ((Below.heap_alloc _ _ _ (blk_lt hb)).trans hb); obtain ⟨r0, r1⟩ := blk_2 (keepBlk _ _ F8 (Ne.symm ho8)); have zw8 := hgrow.size; rw [World.size_alloc] at zw8)
                  go_roundw
                  case rel =>
                    refine ⟨j + 1, w8.heap.size, rfl, by omega, ?_, ?_, ?_, ?_, ?_, ⟨by omega, by omega, by omega⟩, bw_alloc ((nf.alloc nf.size _).grown hgrow (by simp; omega) (fun q e => (hownf.lt q e).1)) _⟩
                    · have e1 : ptCells (stayL (l.take (k + 1)) ++ lineL (ptAt l k) d (j + 1)) = ptCells (stayL (l.take (k + 1)) ++ lineL (ptAt l k) d j) ++ [.int .i64 (ux + d1x), .int .i64 (uy + d2x)] := by
                        rw [lineL_snoc, HS.out, ← List.append_assoc, ptCells_snoc]
                      rw [e1]
                      exact hown1.alloc _
                    · intro b e
                      obtain rfl : gg = b := Option.some.inj e
                      refine ⟨?_, ?_, by omega⟩
                      · rcases hat with h | h
                        · obtain rfl : g2 = gg := Option.some.inj h
                          exact ho6
                        · omega
                      · rcases hat with h | h
                        · obtain rfl : g2 = gg := Option.some.inj h
                          exact ho7
                        · omega
                    · rw [HS.out]; exact heap_new w8 _
                    · exact (Below.heap_alloc w8 _ _ (blk_lt (keepBlk _ _ F7 (Ne.symm ho7)))).trans (keepBlk _ _ F7 (Ne.symm ho7))
                    · exact (Below.heap_alloc w8 _ _ (blk_lt (keepBlk _ _ F6 (Ne.symm ho6)))).trans (keepBlk _ _ F6 (Ne.symm ho6))
                  case measure => simp [lenOf]; omega
                · have x1 : (ux == bx) = false := by simpa using hcx
                  have x2 : (ux = bx) = False := by simpa using hcx
                  have x3 : (ux != bx) = true := by unfold bne; rw [x1]; rfl
                  clear hcx
                  go_upto_region 13 with fail
                  rw [← hWf]
                  clear hWf s1 s2 s3 s4 s5 s6 s7 s8 N8 N7 N6
                  go_wp2_with (at_builtin; refine wpList_append_lies _ rfl _ _ _ rfl w.heap.size 42 i0 _ 2 16 Tryd.underlying23 hi0 hz0 hz1 hz2 rfl (by omega) _ _ _ rfl (hownf.alloc _) ⟨Wf.heap.size, 0, none⟩ 1 1 [.int .i64 (ux + d1x), .int .i64 (uy + d2x)] rfl rfl (World.news_of_block (cs := #[.int .i64 (ux + d1x), .int .i64 (uy + d2x)]) (t := 42) (fr := (0, 0)) (heap_alloc_new Wf _)) (by simp [Value.oneCell']) (by omega) (by simp [maxLen]; omega) (by omega) (by simp; omega) (Wf.heap.size + 1) (by simp) ?_; intro gg cap' w8 hown1 hgrow hat hlt1; have keepBlk : ∀ b o, Wf.heap[b]? = some o → b ≠ g2 → w8.heap[b]? = some o := fun b o hb hbn => (hgrow.block b (by have := blk_lt hb; simp; omega) (fun e => hbn (Option.some.inj e))).trans ((Below.heap_alloc _ _ _ (blk_lt hb)).trans hb); obtain ⟨r0, r1⟩ := blk_2 (keepBlk _ _ F8 (Ne.symm ho8)); have zw8 := hgrow.size; rw [World.size_alloc] at zw8)
                  go_roundw
                  case rel =>
                    refine ⟨j + 1, w8.heap.size, rfl, by omega, ?_, ?_, ?_, ?_, ?_, ⟨by omega, by omega, by omega⟩, bw_alloc ((nf.alloc nf.size _).grown hgrow (by simp; omega) (fun q e => (hownf.lt q e).1)) _⟩
                    · have e1 : ptCells (stayL (l.take (k + 1)) ++ lineL (ptAt l k) d (j + 1)) = ptCells (stayL (l.take (k + 1)) ++ lineL (ptAt l k) d j) ++ [.int .i64 (ux + d1x), .int .i64 (uy + d2x)] := by
                        rw [lineL_snoc, HS.out, ← List.append_assoc, ptCells_snoc]
                      rw [e1]
                      exact hown1.alloc _
                    · intro b e
                      obtain rfl : gg = b := Option.some.inj e
                      refine ⟨?_, ?_, by omega⟩
                      · rcases hat with h | h
                        · obtain rfl : g2 = gg := Option.some.inj h
                          exact ho6
                        · omega
                      · rcases hat with h | h
                        · obtain rfl : g2 = gg := Option.some.inj h
                          exact ho7
                        · omega
                    · rw [HS.out]; exact heap_new w8 _
                    · exact (Below.heap_alloc w8 _ _ (blk_lt (keepBlk _ _ F7 (Ne.symm ho7)))).trans (keepBlk _ _ F7 (Ne.symm ho7))
                    · exact (Below.heap_alloc w8 _ _ (blk_lt (keepBlk _ _ F6 (Ne.symm ho6)))).trans (keepBlk _ _ F6 (Ne.symm ho6))
                  case measure => simp [lenOf]; omega
end Go.Proofs.YtfdnadiliedikaaDoor
namespace Go.Proofs.YtfdnadiliedikaaDoor
open Go.RowKit Go.Sort Go.Conc Go.Shelf

def lnsX (z : List UInt8) : List ByteArray := (lnsW z).map fun y => ⟨y.toArray⟩
theorem lnsX_len (z : List UInt8) : (lnsX z).length = (lnsW z).length := List.length_map _
theorem lnsX_enc (z : List UInt8) : (lnsW z).map encStr = (lnsX z).map Value.string := by
  unfold lnsX; rw [List.map_map]; rfl
theorem strRow_own {W : World} {base n : Nat} {v : Value} {xs : List ByteArray} (h : W.ownsRow base 9 1 v n (xs.map Value.string)) (hl : xs.length = n) : ∃ a c, v = .slice a n c ∧ StrRow W a n xs := by
  rcases h.2 with ⟨e, h0⟩ | ⟨g, cap, cur, e, hb, hg, r⟩
  · exact ⟨none, 0, by rw [e, h0], hl, .inl h0⟩
  · refine ⟨some ⟨g, 0, none⟩, cap, e, hl, .inr ⟨g, rfl, (Array.getElem?_eq_some_iff.1 hg).1, fun j x hx => ?_⟩⟩
    subst e
    have hj := (List.getElem?_eq_some_iff.1 hx).1
    rw [h.cellAt j (by omega), List.getElem?_map, hx]; rfl
theorem slice_form {W : World} {base n k : Nat} {t : TypeId} {v : Value} {cs : List Value} (h : W.ownsRow base t k v n cs) : ∃ a c, v = .slice a n c := by
  rcases h.2 with ⟨e, h0⟩ | ⟨g, cap, cur, e, _⟩
  · exact ⟨none, 0, by rw [e, h0]⟩
  · exact ⟨_, cap, e⟩
theorem AnsT.ownc {base top : Nat} {W : World} {v : Value} {l : List P2} (h : AnsT base top W v l) : ∃ a c, v = .slice a l.length c ∧ l.length ≤ c ∧ Pts W.heap.size W a l.length l := by
  rcases h with ⟨rfl, a, c, rfl⟩ | ⟨g, c, rfl, hb, ht, hc, hB⟩
  · exact ⟨a, c, rfl, Nat.zero_le _, rfl, .inl rfl⟩
  · exact ⟨_, c, rfl, hc, hB.pts' rfl⟩
theorem lnsF_mem : ∀ (n : Nat) (z y : List UInt8), y ∈ lnsF n z → y.length ≤ z.length
  | 0, z, y, h => by simp [lnsF] at h
  | n + 1, z, y, h => by
    simp only [lnsF] at h
    split at h
    · cases h
    · split at h
      · rcases List.mem_cons.1 h with rfl | h
        · rw [List.length_take]; omega
        · have := lnsF_mem n _ y h
          rw [List.length_drop] at this; omega
      · rw [List.mem_singleton.1 h]; exact Nat.le_refl _
set_option maxRecDepth 100000 in
set_option maxHeartbeats 4000000 in
theorem codeRead_any (s : ByteArray) (_hs : s.size ≤ 1048576) (w : World) (hL : Lib4 w) :
    Calls Tryd.prog 13 #[.string s] w fun e w' => ∃ v, e = .returned (.tuple #[v, .bool (readC s.data.toList).isSome]) ∧ AnsT w.heap.size w'.heap.size w' v ((readC s.data.toList).getD []) ∧ Below w.heap.size w w' := by
  obtain ⟨i0, hi0, hz0, hz1, hz2⟩ := info_parts Tryd.infoPt
  have esz : s.data.toList.length = s.size := Array.length_toList
  by_cases h4 : s.size ≤ 4000
  case neg =>
    have e1 : Hid (readC s.data.toList = none) := readC_long (by omega)
    have h4' : ((4000 : Int) < (s.size : Int)) := by omega
    go_enter Tryd.func13, Tryd.ntmps13
    go_wp2_with fail
    go_ret2
    exact ⟨.slice none 0 0, by rw [e1.out]; rfl, by have h := e1.out; simp only [h]; exact .inl ⟨rfl, none, 0, rfl⟩, bw_refl _⟩
  case pos =>
  have h4' : ¬ ((4000 : Int) < (s.size : Int)) := by omega
  obtain ⟨z, hz⟩ : ∃ z, s.data.toList = z := ⟨_, rfl⟩
  have hzs : encStr z = .string s := by rw [← hz]
  rw [hz] at esz ⊢
  have hlen : (lnsW z).length ≤ z.length := lnsW_len _ _
  have B1 : Below w.heap.size w (w.alloc (.cells #[.string s] 9)) := (by repeat (first | exact bw_refl _ | assumption | apply bw_drewN | apply bw_drew | apply bw_alloc | refine bw_set ?_ (by simp) _))
  have s1 : (w.alloc (.cells #[.string s] 9)).heap.size = w.heap.size + 1 := by simp
  have hCol := collectLines_any w.heap.size (w.alloc (.cells #[.string s] 9)) z (by omega) (by omega) (by rw [hzs]; exact heap_new w _)
  obtain ⟨n, hn⟩ : ∃ n, (lnsW z).length = n := ⟨_, rfl⟩
  obtain ⟨xs, hxs⟩ : ∃ xs, lnsX z = xs := ⟨_, rfl⟩
  have HXL : Hid (xs.length = n) := by change _ = _; rw [← hxs, lnsX_len, hn]
  have HN : Hid ((lnsW z).length = n) := hn
  have hz4 : z.length ≤ 4000 := by omega
  have HRC : Hid (readC z = match turnsP 0 (lnsW z) with | none => none | some t => if stayV t = true ∧ turnsV (stayR t) = t then some (stayR t) else none) := by
    change _ = _
    unfold readC
    exact (if_pos hz4).trans rfl
  have HY : Hid (∀ y ∈ lnsW z, y.length ≤ 4000) := fun y hy => Nat.le_trans (lnsF_mem _ z y hy) hz4
  have HX : Hid (xs = (lnsW z).map fun y => ⟨y.toArray⟩) := hxs.symm
  rw [lnsX_enc, hxs, hn] at hCol
  rw [hn] at hlen
  clear hn hxs hzs hz
  refine calls_of_wpN Tryd.func13 rfl ?_
  simp only [Tryd.f13, List.size_toArray, List.length_cons, List.length_nil, Nat.reduceAdd, Nat.reduceSub, Array.replicate_succ, Array.replicate_zero, List.push_toArray, List.append_toArray, List.nil_append, List.cons_append]
  refine wpN_seq (wpN_of ?_)
  go_wp2_with fail
  refine wpN_seq (wpN_of ?_)
  go_wp2_with fail
  refine wpN_seq (wpN_of ?_)
  go_wp2_with fail
  refine wpN_seq (wpN_seq (wpN_of ?_))
  have hLn := lines_any s w
  go_wp2_with fail
  refine hLn.mono ?_
  rintro e v1 ⟨rfl, hv1⟩
  rw [← hv1] at hCol B1 s1
  clear hv1 hLn
  go_wp2_with fail
  refine hCol.mono ?_
  clear hCol
  rintro e w3 ⟨v3, rfl, hown3, J3⟩
  have K3 := B1.trans J3
  have z3 := J3.size
  obtain ⟨a, c, rfl, hSR⟩ := strRow_own hown3 HXL.out
  have hSent := sent_ok a n c xs w3 hSR (by omega)
  clear hown3 hSR
  go_wp2_with fail
  refine hSent.mono ?_
  clear hSent
  rintro e w4 ⟨ch, rfl, hch, hcb, J4⟩
  have K4 := bw_trans K3 J4
  have hcl := blk_lt hch
  go_wp2_with fail
  refine wpN_block ?_
  have hch0 : w4.heap[ch]? = some (.chan n ((xs.drop 0).map Value.string).toArray true n 0 false) := by rw [List.drop_zero]; exact hch
  clear hch
  refine wpN_loop n (fun j a' w' => ∃ (q : Nat) (v : Value) (l : List P2) (x5 x6 x7 x17 x18 x19 x20 x21 x22 x23 x24 x25 x26 x27 x28 x29 x30 x31 x32 : Value), q + j = n ∧ a' = { tmps := #[.string s, undef, .slice none 0 0, .bool false, v, x5, x6, x7, undef, undef, .string s, .int .i64 (s.size : Int), .bool (decide ((4000 : Int) < (s.size : Int))), .string s, .func (.func 62) #[] #[.pointer (some ⟨w.heap.size, 0, none⟩)], .slice a n c, .chan (some ch), x17, x18, x19, x20, x21, x22, x23, x24, x25, x26, x27, x28, x29, x30, x31, x32, undef, undef, undef, undef, undef, undef, undef, undef, undef, undef, undef, undef, undef, undef, undef], defers := [] } ∧ w'.heap[ch]? = some (.chan n ((xs.drop q).map Value.string).toArray true n q false) ∧ turnsP 0 ((lnsW z).take q) = some l ∧ l.length = q ∧ w'.ownsRow w4.heap.size 42 2 v q (ptCells l) ∧ Below w.heap.size w w' ∧ w4.heap.size ≤ w'.heap.size) ?_ ?_ ?_
  · exact ⟨0, .slice none 0 0, [], _, _, _, _, _, _, _, _, _, _, _, _, _, _, _, _, _, _, _, by omega, rfl, hch0, rfl, rfl, ⟨rfl, .inl ⟨rfl, rfl⟩⟩, K4, Nat.le_refl _⟩
  · rintro j a' w' ⟨q, v, l, x5, x6, x7, x17, x18, x19, x20, x21, x22, x23, x24, x25, x26, x27, x28, x29, x30, x31, x32, hq, rfl, hcw, hTP, hll, hown, hBw, hzz⟩
    have hqn : q < n := by omega
    obtain ⟨av, cv, rfl⟩ : ∃ av cv, v = .slice av q cv := slice_form hown
    obtain ⟨y, hy⟩ : ∃ y, (lnsW z)[q]? = some y := ⟨(lnsW z)[q]'(by rw [HN.out]; exact hqn), List.getElem?_eq_getElem _⟩
    have hdr : xs.drop q = (⟨y.toArray⟩ : ByteArray) :: xs.drop (q + 1) := by
      have h3 : q < xs.length := by rw [HXL.out]; exact hqn
      have h4 : xs[q]? = some (⟨y.toArray⟩ : ByteArray) := by rw [HX.out, List.getElem?_map, hy]; rfl
      rw [List.drop_eq_getElem_cons h3, (List.getElem?_eq_some_iff.1 h4).2]
    rw [hdr] at hcw
    clear hdr
    have hyl := HY.out y (List.mem_of_getElem? hy)
    have HT : Hid (turnsP 0 ((lnsW z).take (q + 1)) = (lineP q y).map (fun p => l ++ [p])) := by
      change _ = _
      have h5 : ((lnsW z).take q).length = q := by rw [List.length_take, HN.out]; omega
      rw [List.take_add_one, hy]
      show turnsP 0 ((lnsW z).take q ++ [y]) = _
      rw [turnsP_snoc, hTP, h5]; simp only [Nat.zero_add]
    clear hy
    have zB := hBw.size
    obtain ⟨rs, hrs⟩ : ∃ rs, xs.drop (q + 1) = rs := ⟨_, rfl⟩
    have HRS : Hid (xs.drop (q + 1) = rs) := hrs
    rw [hrs] at hcw
    clear hrs
    refine wpN_seq (wpN_region ?_)
    simp only [List.size_toArray, List.length_cons, List.length_nil, Nat.reduceAdd, List.range, List.range.loop]
    refine wpM_recv (ok := true) (c := ch) (z := .string ⟨#[]⟩) rfl (by rfl) (by simp [go_sem, rcase]) hcw (by simp) ?_
    have hlc := blk_lt hcw
    have hext : (((⟨y.toArray⟩ : ByteArray) :: rs).map Value.string).toArray.extract 1 (((⟨y.toArray⟩ : ByteArray) :: rs).map Value.string).toArray.size = (rs.map Value.string).toArray := by simp [List.take_of_length_le]
    have hget : (((⟨y.toArray⟩ : ByteArray) :: rs).map Value.string).toArray.getD 0 undef = .string ⟨y.toArray⟩ := by simp
    rw [hext, hget]
    simp only [got, if_true]
    have OC : Only ch w' (w'.setChan ch n (rs.map Value.string).toArray true n (q + 1) false) := ⟨rfl, rfl, rfl, by simp [World.setChan], fun i hi _ => by simp only [World.setChan]; rw [Array.getElem?_setIfInBounds_ne (Ne.symm hi)]⟩
    have hV1 := heap_setChan w' ch n (rs.map Value.string).toArray true n (q + 1) false hlc
    have hV2 := below_setChan hBw (show w.heap.size ≤ ch by have := K3.size; omega) n (rs.map Value.string).toArray true n (q + 1) false
    have hV3 : (w'.setChan ch n (rs.map Value.string).toArray true n (q + 1) false).ownsRow w4.heap.size 42 2 (.slice av q cv) q (ptCells l) := hown.kept (row := some ch) ⟨OC.os, OC.tape, OC.output, OC.size, fun i hi hne => OC.block i (fun e => hne (by rw [e])) hi⟩ (.inr fun e => absurd (hown.lt ch e).1 (by omega))
    have hV4 : w4.heap.size ≤ (w'.setChan ch n (rs.map Value.string).toArray true n (q + 1) false).heap.size := Nat.le_trans hzz OC.size
    clear hext hget OC hcw hown hBw
    generalize w'.setChan ch n (rs.map Value.string).toArray true n (q + 1) false = V at hV1 hV2 hV3 hV4 ⊢
    refine wpM_value (w' := V) (v := .bool true) rfl (by rfl) (by simp [go_sem, Act.put]) ?_
    refine wpM_done ?_
    simp only [Exit.then]
    have hC := codeLineRead_any q y (by omega) V (hL.below hV2)
    have zV := hV2.size
    have hclt : ch < V.heap.size := by omega
    have j0 : (0 : Int) ≤ (q : Int) := Int.natCast_nonneg _
    cases hlp : lineP q y with
    | none =>
      rw [hlp] at hC
      have e1 : Hid (readC z = none) := by
        change _ = _
        rw [HRC.out, turnsP_none (j := q + 1) (by rw [HT.out, hlp]; rfl)]
      clear HT hTP HRC
      refine wpN_of ?_
      go_wp2_with fail
      refine hC.mono ?_
      clear hC
      rintro e w5 ⟨rfl, J5⟩
      have K5 := bw_trans hV2 J5
      have z5 := K5.size
      go_wp2_with fail
      refine bodyPost_ret (v := .tuple #[.slice none 0 0, .bool false]) (by simp [results, go_sem]) rfl ?_
      exact ⟨.slice none 0 0, by rw [e1.out]; rfl, by have h := e1.out; simp only [h]; exact .inl ⟨rfl, none, 0, rfl⟩, (by repeat (first | exact bw_refl _ | assumption | apply bw_drewN | apply bw_drew | apply bw_alloc | refine bw_set ?_ (by simp) _))⟩
    | some p =>
      rw [hlp] at hC
      have hn1 : Hid (turnsP 0 ((lnsW z).take (q + 1)) = some (l ++ [p])) := by
        change _ = _
        rw [HT.out, hlp]; rfl
      have hl1 : Hid ((l ++ [p]).length = q + 1) := by change _ = _; rw [List.length_append, hll]; rfl
      have hsn : Hid (ptCells (l ++ [p]) = ptCells l ++ [.int .i64 p.1, .int .i64 p.2]) := ptCells_snoc l p
      have hpv : ptV (some p) = p := rfl
      rw [hpv] at hC
      clear HT hTP hll
      refine wpN_of ?_
      go_wp2_with fail
      refine hC.mono ?_
      clear hC
      rintro e w5 ⟨rfl, J5⟩
      have K5 := bw_trans hV2 J5
      have z5 := J5.size
      have hc5 : w5.heap[ch]? = some (.chan n (rs.map Value.string).toArray true n (q + 1) false) := keep J5 hV1
      have hown5 := hV3.kept (w' := w5) (row := none) ⟨J5.os, J5.tape, J5.output, J5.size, fun j hj _ => J5.block j hj⟩ (Classical.em _)
      obtain ⟨X, hX, BX, TX⟩ : ∃ X, X = w5.alloc (.cells #[.int .i64 p.1, .int .i64 p.2] 42) ∧ Below w5.heap.size w5 X ∧ X.heap[w5.heap.size]? = some (.cells #[.int .i64 p.1, .int .i64 p.2] 42) := ⟨_, rfl, (by repeat (first | exact bw_refl _ | assumption | apply bw_drewN | apply bw_drew | apply bw_alloc | refine bw_set ?_ (by simp) _)), heap_new _ _⟩
      have hownX : X.ownsRow w4.heap.size 42 2 (.slice av q cv) q (ptCells l) := by rw [hX]; exact hown5.alloc _
      have hcX := keep BX hc5
      have KX := bw_trans K5 BX
      have zX := BX.size
      clear hV1 hV2 hV3 hown5 hc5 J5 K5
      go_upto_region 10 with fail
      rw [← hX]
      clear hX BX
      obtain ⟨t0, t1⟩ := blk_2 TX
      go_wp2_with (at_builtin; refine wpList_append_lies _ rfl _ _ _ rfl w4.heap.size 42 i0 _ 2 16 Tryd.underlying23 hi0 hz0 hz1 hz2 rfl (by omega) _ _ _ rfl (hownX.alloc _) ⟨X.heap.size, 0, none⟩ 1 1 [.int .i64 p.1, .int .i64 p.2] rfl rfl (World.news_of_block (cs := #[.int .i64 p.1, .int .i64 p.2]) (t := 42) (fr := (0, 0)) (heap_alloc_new X _)) (by simp [Value.oneCell']) (by omega) (by simp [maxLen]; omega) (by omega) (by simp; omega) (X.heap.size + 1) (by simp) ?_; intro gg cap' w8 hown1 hgrow hat hlt1)
      have zc := blk_lt hcX
      have hc8 : w8.heap[ch]? = some (.chan n (rs.map Value.string).toArray true n (q + 1) false) := (hgrow.block ch (by simp; omega) (fun e => absurd (hownX.lt ch e.symm).1 (by omega))).trans ((Below.heap_alloc _ _ ch zc).trans hcX)
      have z8 := hgrow.size
      have zw := KX.size
      have K8 : Below w.heap.size w w8 := (KX.alloc (by omega) _).grown hgrow (by simp; omega) (fun j e => by have := (hownX.lt j e).1; have := K4.size; omega)
      exact ⟨q + 1, _, l ++ [p], _, _, _, _, _, _, _, _, _, _, _, _, _, _, _, _, _, _, _, by omega, rfl, by rw [HRS.out]; exact hc8, hn1.out, hl1.out, by rw [hsn.out]; exact hown1, K8, by rw [World.size_alloc] at z8; omega⟩
  · rintro a' w' ⟨q, v, l, x5, x6, x7, x17, x18, x19, x20, x21, x22, x23, x24, x25, x26, x27, x28, x29, x30, x31, x32, hq, rfl, hcw, hTP, hll, hown, hBw, hzz⟩
    obtain rfl : q = n := by omega
    have hdr : xs.drop q = [] := List.drop_eq_nil_of_le (by rw [HXL.out]; exact Nat.le_refl _)
    rw [hdr] at hcw
    rw [List.take_of_length_le (by rw [HN.out]; exact Nat.le_refl _)] at hTP
    have A0 := AnsT.of_own hown hll
    obtain ⟨av, cv, rfl, hcv, P0⟩ := A0.ownc
    rw [hll] at P0 hcv
    have hSt := codeStay_any av q cv l w' (by omega) hcv P0
    have HR2 : Hid ((if stayV l = true ∧ turnsV (stayR l) = l then some (stayR l) else none) = readC z) := by
      change _ = _
      rw [HRC.out, hTP]
    have h400 := stayR_len l
    have HLL : Hid (l.length = q) := hll
    rw [hll]
    clear hdr hTP A0 hown hll HRC
    refine wpN_seq (wpN_region ?_)
    simp only [List.size_toArray, List.length_cons, List.length_nil, Nat.reduceAdd, List.range, List.range.loop]
    refine wpM_shut (ok := true) (c := ch) (z := .string ⟨#[]⟩) rfl (by rfl) (by simp [go_sem, rcase]) hcw ?_
    simp only [got, if_true]
    refine wpM_value (w' := w') (v := .bool false) rfl (by rfl) (by simp [go_sem, Act.put]) ?_
    refine wpM_done ?_
    simp only [Exit.then]
    clear hcw
    refine wpN_of ?_
    cases hsv : stayV l with
    | false =>
      have e1 : Hid (readC z = none) := by change _ = _; rw [← HR2.out, if_neg (by rw [hsv]; simp)]
      rw [hsv] at hSt
      clear hsv HR2
      go_wp2_with fail
      refine wpN_of ?_
      go_wp2_with fail
      refine hSt.mono ?_
      rintro e w5 ⟨v5, rfl, A5, J5⟩
      have K5 := bw_trans hBw J5
      go_wp2_with fail
      refine bodyPost_ret (v := .tuple #[.slice none 0 0, .bool false]) (by simp [results, go_sem]) rfl ?_
      exact ⟨.slice none 0 0, by rw [e1.out]; rfl, by have h := e1.out; simp only [h]; exact .inl ⟨rfl, none, 0, rfl⟩, K5⟩
    | true =>
      rw [hsv] at hSt
      by_cases hte : turnsV (stayR l) = l
      case neg =>
        have e1 : Hid (readC z = none) := by change _ = _; rw [← HR2.out, if_neg (fun h => hte h.2)]
        clear hsv HR2
        go_wp2_with fail
        refine wpN_of ?_
        go_wp2_with fail
        refine hSt.mono ?_
        rintro e w5 ⟨v5, rfl, A5, J5⟩
        have K5 := bw_trans hBw J5
        obtain ⟨a5, c5, rfl, hc5, P5⟩ := A5.ownc
        have hTu := codeTurns_any a5 (stayR l).length c5 (stayR l) w5 (by omega) hc5 P5
        have P0' := (P0.below J5).grow J5.size
        go_wp2_with fail
        refine hTu.mono ?_
        rintro e w6 ⟨v6, rfl, A6, J6⟩
        have K6 := bw_trans K5 J6
        obtain ⟨a6, c6, rfl, hc6, P6⟩ := A6.ownc
        have h6 := turnsV_len (stayR l)
        have hEq := slEq_any a6 av (turnsV (stayR l)).length q c6 cv (turnsV (stayR l)) l w6 P6 ((P0'.below J6).grow J6.size) (by omega)
        rw [decide_eq_false hte] at hEq
        clear hte
        go_wp2_with fail
        refine hEq.mono ?_
        rintro e w7 ⟨rfl, J7⟩
        have K7 := bw_trans K6 J7
        go_wp2_with fail
        refine bodyPost_ret (v := .tuple #[.slice none 0 0, .bool false]) (by simp [results, go_sem]) rfl ?_
        exact ⟨.slice none 0 0, by rw [e1.out]; rfl, by have h := e1.out; simp only [h]; exact .inl ⟨rfl, none, 0, rfl⟩, K7⟩
      case pos =>
        have e1 : Hid (readC z = some (stayR l)) := by change _ = _; rw [← HR2.out, if_pos ⟨hsv, hte⟩]
        clear hsv HR2
        go_wp2_with fail
        refine wpN_of ?_
        go_wp2_with fail
        refine hSt.mono ?_
        rintro e w5 ⟨v5, rfl, A5, J5⟩
        have K5 := bw_trans hBw J5
        have A5' := A5
        obtain ⟨a5, c5, rfl, hc5, P5⟩ := A5.ownc
        have hTu := codeTurns_any a5 (stayR l).length c5 (stayR l) w5 (by omega) hc5 P5
        have P0' := (P0.below J5).grow J5.size
        go_wp2_with fail
        refine hTu.mono ?_
        rintro e w6 ⟨v6, rfl, A6, J6⟩
        have K6 := bw_trans K5 J6
        obtain ⟨a6, c6, rfl, hc6, P6⟩ := A6.ownc
        have h6 := turnsV_len (stayR l)
        have hEq := slEq_any a6 av (turnsV (stayR l)).length q c6 cv (turnsV (stayR l)) l w6 P6 ((P0'.below J6).grow J6.size) (by omega)
        rw [decide_eq_true hte] at hEq
        clear hte
        go_wp2_with fail
        refine hEq.mono ?_
        rintro e w7 ⟨rfl, J7⟩
        have K7 := bw_trans K6 J7
        have JJ := bw_trans J6 J7
        have zz := JJ.size
        have zb := hBw.size
        go_wp2_with fail
        refine bodyPost_ret (v := .tuple #[.slice a5 (stayR l).length c5, .bool true]) (by simp [results, go_sem]) rfl ?_
        exact ⟨_, by rw [e1.out]; rfl, by have h := e1.out; simp only [h]; exact (A5'.below JJ).widen (by omega) zz, K7⟩
end Go.Proofs.YtfdnadiliedikaaDoor
namespace Go.Proofs.YtfdnadiliedikaaDoor
open Go.RowKit Go.Sort

theorem readC_len (z : List UInt8) : ((readC z).getD []).length ≤ 400 := by
  unfold readC
  split
  · split
    · exact Nat.zero_le _
    · split
      · exact stayR_len _
      · exact Nat.zero_le _
  · exact Nat.zero_le _
set_option maxRecDepth 100000 in
set_option maxHeartbeats 2000000 in
theorem exCodeRead_walk (s : ByteArray) (_ : s.size ≤ maxLen) (W : World) (hL : Lib4 W) :
    Calls Tryd.prog 8 #[.string s] W fun e w' => e = .returned (.bool true) ∧ Below W.heap.size W w' := by
  by_cases hlen : (1048576 : Int) < (s.size : Int)
  · go_enter Tryd.func8, Tryd.ntmps8
    go_wp2_with fail
    go_ret
    exact ⟨rfl, (by repeat (first | exact bw_refl _ | assumption | apply bw_drewN | apply bw_drew | apply bw_alloc | refine bw_set ?_ (by simp) _))⟩
  have hS := fun V => sCodeRead_ok s (by omega) V
  have hR := fun V (hV : Lib4 V) => codeRead_any s (by omega) V hV
  have h8 := readC_len s.data.toList
  have n2 : ¬ (1 + 2 * (((readC s.data.toList).getD []).length : Int) < 0) := by omega
  have hb : ∀ b : Bool, (b != b) = false := by simp
  generalize (readC s.data.toList).getD [] = l at *
  generalize (readC s.data.toList).isSome = b at *
  go_enter Tryd.func8, Tryd.ntmps8
  go_wp2_with fail
  refine (hS _).mono ?_
  rintro e w1 ⟨v1, rfl, A1, J1⟩
  have K1 := J1
  go_wp2_with fail
  refine (hR _ (hL.below K1)).mono ?_
  rintro e w2 ⟨v2, rfl, A2, J2⟩
  have K2 := bw_trans K1 J2
  replace A1 := A1.below J2
  go_wp2_with fail
  refine (eqAns_same _ _ _ _ v2 v1 _ _ A2 A1 (by omega)).mono ?_
  rintro e w3 ⟨rfl, J3⟩
  have K3 := bw_trans K2 J3
  replace A1 := A1.below J3
  replace A2 := A2.below J3
  go_wp2_with fail
  refine (markAns_any _ _ v2 _ _ A2 (by omega)).mono ?_
  rintro e w4 ⟨rfl, N4, r, hr, hr2, O4⟩
  have z1 := J1.size
  have z2 := J2.size
  have z3 := J3.size
  have K4 : Below W.heap.size W w4 := K3.trans (O4.below' (B := W.heap.size) (by omega) (by omega))
  replace A1 := A1.only O4 (.inr (by omega))
  go_wp2_with fail
  refine (heldAns_any _ _ _ v2 _ N4 (by omega)).mono ?_
  rintro e w5 ⟨rfl, J5⟩
  have K5 := bw_trans K4 J5
  replace A1 := A1.below J5
  replace N4 := N4.below J5
  go_wp2_with fail
  refine (hR _ (hL.below K5)).mono ?_
  rintro e w6 ⟨v6, rfl, A6, J6⟩
  have K6 := bw_trans K5 J6
  replace A1 := A1.below J6
  replace N4 := N4.below J6
  go_wp2_with fail
  refine (eqAns_same _ _ _ _ v6 v1 _ _ A6 A1 (by omega)).mono ?_
  rintro e w7 ⟨rfl, J7⟩
  have K7 := bw_trans K6 J7
  replace N4 := N4.below J7
  go_wp2_with fail
  refine (heldAns_any _ _ _ v2 _ N4 (by omega)).mono ?_
  rintro e w8 ⟨rfl, J8⟩
  go_wp2_with fail
  go_ret
  exact ⟨rfl, bw_trans K7 J8⟩
end Go.Proofs.YtfdnadiliedikaaDoor
namespace Go.Proofs.YtfdnadiliedikaaDoor
open Go.ChangeShapes Go.WideShapes Go.ChangeAt Go.RowKit

theorem own : ownKnob Tryd.prog.godebug = none := by kernel_rfl
theorem laidOut : laidOutB Tryd.prog = true := by kernel_rfl
/-- The list. -/
def listTab : List (String × DataW Unit) := [("math/bits.deBruijn32tab", Rows.laid_math_bits_deBruijn32tab), ("math/bits.deBruijn64tab", Rows.laid_math_bits_deBruijn64tab), ("internal/strconv.uint64pow10", Rows.laid_internal_strconv_uint64pow10)]
theorem gPType : (Tryd.prog.globals[1]?).map (·.type) = some 107 := by kernel_rfl
theorem cellsU64 : Tryd.prog.cellsOf 99 = 1 := by kernel_rfl
theorem cellsTab : Tryd.prog.cellsOf 107 = 20 := by kernel_rfl
theorem tabSame : Rows.laid_internal_strconv_uint64pow10 (H := Unit) = Lib.tabData .u64 Lib.pow10Tab := by kernel_rfl
theorem tab_of_laid {W : World} (h : laidMetH Tryd.prog listTab W) : Tab W := by
  rw [MakeChecks.laidMetH_plain _ _ _ (by kernel_rfl)] at h
  have h3 : laidMet Tryd.prog [("internal/strconv.uint64pow10", Rows.laid_internal_strconv_uint64pow10)] W := (laidMet.tail (laidMet.tail h))
  rw [tabSame] at h3
  exact Lib.tabIs_of_head gP gPType Tryd.underlying107 Tryd.underlying99 cellsU64 cellsTab h3
/-- The door's own heap meets the condition. -/
theorem door_met_tab (os : Os) (args : Array Value) : laidMetH Tryd.prog listTab ((World.doorLaid Tryd.prog 62 os).forCall (fun _ _ => 0) ⟨#[], args, []⟩).memory :=
  laidMetH_of_parts3 (fuel := 8) (laidMet_of_run' 8 (by kernel_rfl) (by kernel_rfl)) (by kernel_rfl) (by kernel_rfl)
end Go.Proofs.YtfdnadiliedikaaDoor
namespace Go.Proofs.YtfdnadiliedikaaDoor
open Go.ChangeShapes Go.WideShapes Go.ChangeAt Go.RowKit

/-- The list. -/
def listAll : List (String × DataW Unit) := [("math/bits.deBruijn32tab", Rows.laid_math_bits_deBruijn32tab), ("math/bits.deBruijn64tab", Rows.laid_math_bits_deBruijn64tab), ("internal/strconv.uint64pow10", Rows.laid_internal_strconv_uint64pow10), ("strconv.ErrRange", Rows.laid_strconv_ErrRange), ("strconv.ErrSyntax", Rows.laid_strconv_ErrSyntax)]
theorem gRngType : (Tryd.prog.globals[3]?).map (·.type) = some 54 := by kernel_rfl
theorem gSynType : (Tryd.prog.globals[2]?).map (·.type) = some 54 := by kernel_rfl
theorem cellsES : Tryd.prog.cellsOf 131 = 1 := by kernel_rfl
theorem cellsStr : Tryd.prog.cellsOf 9 = 1 := by kernel_rfl
theorem star : "*" ++ "errors.errorString" = "*errors.errorString" := by decide
theorem rowES (u : TypeId) (h : Tryd.prog.typeName? 3 u = some "*errors.errorString") : u = 129 :=
  typeName_ptr_named (nm := "errors.errorString") (by rw [star]; kernel_rfl) (by kernel_rfl) (by decide) u (by rw [star]; exact h)
theorem all_of_laid {W : World} (h : laidMetH Tryd.prog listAll W) (hsh : W.ShapedOpen Tryd.prog) : Lib4 W := by
  rw [MakeChecks.laidMetH_plain _ _ _ (by kernel_rfl)] at h
  have h3 := laidMet.tail (laidMet.tail h)
  have h5 := laidMet.tail h3
  have h6 := laidMet.tail h5
  refine ⟨?_, ?_, ?_, ?_⟩
  · rw [tabSame] at h3
    exact Lib.tabIs_of_head gP gPType Tryd.underlying107 Tryd.underlying99 cellsU64 cellsTab h3
  · exact cell_of_shapedOpen_int hsh (g := 0) (t := 3) (zero := #[.int .i64 0]) (of_decide_eq_true (by kernel_rfl)) (by kernel_rfl) rfl (by kernel_rfl) (by kernel_rfl) Tryd.underlying3
  · obtain ⟨a, s, hv, _, _, _⟩ := laid_sentinel h6 gSyn gSynType Tryd.underlying54 rowES Tryd.underlying129 Tryd.underlying131 rfl rfl Tryd.underlying9 cellsES cellsStr
    exact ⟨_, _, hv⟩
  · obtain ⟨a, s, hv, _, _, _⟩ := laid_sentinel h5 gRng gRngType Tryd.underlying54 rowES Tryd.underlying129 Tryd.underlying131 rfl rfl Tryd.underlying9 cellsES cellsStr
    exact ⟨_, _, hv⟩
/-- A heap in which all of them lie. -/
theorem met_all (os : Os) (args : Array Value) : laidMetH Tryd.prog listAll ((World.laidAll Tryd.prog os listAll).forCall (fun _ _ => 0) ⟨#[], args, []⟩).memory := by
  rw [MakeChecks.laidMetH_plain _ _ _ (by kernel_rfl)]
  exact laidMet_laidAll _ (by kernel_rfl) (by kernel_rfl)
theorem shaped_all (os : Os) (args : Array Value) : ((World.laidAll Tryd.prog os listAll).forCall (fun _ _ => 0) ⟨#[], args, []⟩).Shaped Tryd.prog := World.shaped_of_ZipB (by kernel_rfl) (by kernel_rfl)
/-- The wrap: what is listed, and the world's shape. -/
theorem returns_and_shaped {H : Type} {enc : TypeId × Value → H} {a : Assume} {C : Checked} {os : Os} {f : FuncId} {fn : Func} {s : ChangeSpec} {conds : List PathCond} {apart fresh handsOn again : Bool} {X : World → Array Value → Prop}
    (hX : ∀ (w w' : World) (args : Array Value), w.heap = w'.heap → X w args → X w' args)
    (own : ownKnob C.prog.godebug = none) (started : os.Started) (noInit : C.prog.inits.idxOf? f = none) (hfn : C.prog.funcs[f]? = some fn)
    (witness : ∃ (w : World) (tape : Tape) (i : Input), w.os = os ∧ (w.forCall tape i).Shaped C.prog ∧ i.vars = [] ∧ Input.okWide C.prog (w.forCall tape i) .any w.heap.size f i ∧
      ((s.pre enc C.prog fn conds apart (w.forCall tape i).memory i.args ∧ X (w.forCall tape i).memory i.args) ∧ sizedMet enc C.prog fn (OpenSpec.ofChange s) apart (w.forCall tape i).memory i.args) ∧ a.holds C.prog (lone (Frame.enter C.prog f i.args .normal) [] (w.forCall tape i)))
    (contract : ∀ (W : World) (base : Nat) (args : Array Value) (ds gs : List (DataW H)) (before : List MemPlace),
      (∀ (j : Nat) t v, fn.params[j]? = some t → args[j]? = some v → Value.okWide C.prog W .any base t v) →
      DataW.Whole enc C.prog fn.params.toList s.vars apart W args.toList ds gs before → X W args → W.ShapedOpen C.prog →
      Calls C.prog f args W fun e W' => ∃ v, e = .returned v ∧ s.post enc C.prog fn apart fresh handsOn again W args v W') :
    ReturnsInHanded a C os f .any (fun w args => (s.pre enc C.prog fn conds apart w args ∧ X w args) ∧ sizedMet enc C.prog fn (OpenSpec.ofChange s) apart w args) (s.post enc C.prog fn apart fresh handsOn again) := by
  refine returnsInHanded_of_calls own started noInit witness fun w tape i _ hsh _ hok hpre _ => ?_
  obtain ⟨_, _, _, g, hg, _, _, _, _, hval⟩ := hok
  obtain rfl : g = fn := Option.some.inj (hg.symm.trans hfn)
  obtain ⟨⟨⟨ds, gs, before, hw, _⟩, hx⟩, _⟩ := hpre
  refine (contract (w.forCall tape i) w.heap.size i.args ds gs before hval (DataW.Whole.of_heap (w' := w.forCall tape i) (by rfl) hw) (hX _ _ _ (by rfl) hx) hsh).mono fun e W' ⟨v, he, hp⟩ => ?_
  subst he
  exact ChangeSpec.post_blind hp
end Go.Proofs.YtfdnadiliedikaaDoor
namespace Go.Proofs.YtfdnadiliedikaaDoor
open Go.ChangeShapes Go.WideShapes Go.ChangeAt Go.RowKit Go.Joins
open Go.ChangeMaps (open_string shut_string)

set_option maxRecDepth 100000 in
theorem fnExactCodeRead_lifted (os : Os) (started : os.Started) (H : Type) (enc : TypeId × Value → H) :
    ReturnsInHanded {} Tryd.checked os 8 .any (fun w args => (Rows.fnExactCodeReadSpec.pre enc Tryd.prog Tryd.f8 [] false w args ∧ laidMetH Tryd.prog Rows.fnExactCodeReadRow.laid w) ∧ sizedMet enc Tryd.prog Tryd.f8 (OpenSpec.ofChange Rows.fnExactCodeReadSpec) false w args)
      (Rows.fnExactCodeReadSpec.post enc Tryd.prog Tryd.f8 false true false false) := by
  refine returns_and_shaped (C := Tryd.checked) (X := fun w _ => laidMetH Tryd.prog Rows.fnExactCodeReadRow.laid w) (fun _ _ _ hh h => h.of_heap hh) own started (by kernel_rfl) Tryd.func8
    (ChangeSpec.witness_shaped (enc := enc) (C := Tryd.checked) (os := os) (X := fun w _ => laidMetH Tryd.prog Rows.fnExactCodeReadRow.laid w) false (World.laidAll Tryd.prog os listAll) #[.string ByteArray.empty] 8 (World.laidAll_os _ _ _) (shaped_all os _) (by kernel_rfl) (by kernel_rfl) (by kernel_rfl) (met_all os _)) ?_
  intro W base args ds gs before hval0 hW hL hsh
  have hval : ∀ (j : Nat) t v, Tryd.f8.params[j]? = some t → args[j]? = some v → Value.okWide Tryd.prog W .any base t v := hval0
  have hW' := hW
  obtain ⟨p, q, hA0, hV, rfl, hfz, hnd⟩ := hW
  have hA : DataW.TrodAll enc Tryd.prog W 0 (fun _ => true) true Tryd.f8.params.toList args.toList ds p := hA0
  rw [Tryd.params8] at hA hval
  obtain ⟨v0, vs0, d0, ds0, p0, q0, hargs, rfl, rfl, h0, r0⟩ := trodAll_cons hA
  obtain ⟨rfl, rfl, rfl⟩ := trodAll_nil r0
  obtain rfl : args = #[v0] := by cases args; simp_all
  obtain ⟨rfl, rfl⟩ := trodVars_none hV
  have htab := all_of_laid hL hsh
  have k0 := h0
  have lt0 : ∀ x ∈ p0, x.block < W.heap.size := by obtain ⟨m, hm⟩ := k0; exact DataW.trod_lt m _ _ _ hm
  obtain ⟨x0, rfl, _, _, wx0⟩ := open_string Tryd.underlying9 (hval 0 9 v0 rfl rfl) h0
  clear hA0 hval0
  refine (exCodeRead_walk x0 wx0 W htab).mono fun e W' ⟨he, bel⟩ => ?_
  subst he
  exact ⟨_, rfl, _, _, _, [], _, [], hW', trodAll_mk1 (shut_bool Tryd.underlying4 _), (trodAll_cons_mk (Below.trod laidOut (by kernel_rfl) (of_decide_eq_true (by kernel_rfl)) k0 bel lt0) trodAll_mk0), rfl, bel.frame _, fun h => by cases h⟩

theorem fnExactCodeRead_said : Rows.FnExactCodeReadSaid :=
  OpenClaim.holds_of_wide 8 Tryd.f8 rfl rfl rfl rfl rfl rfl rfl ⟨rfl, rfl, rfl, rfl, rfl⟩ rfl rfl rfl rfl rfl (by kernel_rfl) Tryd.func8 (by kernel_rfl)
    (of_decide_eq_true (by kernel_rfl)) (by unfold Func.isWrapper; first | (rw [if_pos (by decide +kernel)]; kernel_rfl) | (rw [if_neg (by decide +kernel)]; exact ⟨rfl, rfl⟩))
    (fun os started H enc _ => fnExactCodeRead_lifted os started H enc)

theorem fnExactCodeRead_plain (f : FuncId) (fn : Func) (hf : Tryd.pinned.checked.prog.funcNamed "loop.example/mortiser/laws.FnExactCodeRead" = some f) (hfn : Tryd.pinned.checked.prog.funcs[f]? = some fn) :
    true = Tryd.pinned.checked.prog.looks [] ∧ ∀ (j : Nat) t, fn.params[j]? = some t → Tryd.pinned.checked.prog.wantsStandIn t = false := by
  obtain rfl : f = 8 := Option.some.inj ((show Tryd.prog.funcNamed "loop.example/mortiser/laws.FnExactCodeRead" = some 8 by kernel_rfl).symm.trans hf) |>.symm
  obtain rfl : fn = Tryd.f8 := (Option.some.inj (Tryd.func8.symm.trans hfn)).symm
  refine ⟨by kernel_rfl, fun j t ht => ?_⟩
  rw [Tryd.params8] at ht
  have hm := Array.mem_of_getElem? ht
  simp only [List.mem_toArray, List.mem_cons, List.not_mem_nil, or_false] at hm
  subst hm
  exact (show Tryd.prog.wantsStandIn 9 = false by kernel_rfl)

/-- THE STATEMENT. -/
theorem fnExactCodeRead_card : Rows.FnExactCodeReadCardSaid :=
  Claim7.holds_tied_plain_at .later [] _ _ _ _ fnExactCodeRead_said (fun _ h => by cases h) (by kernel_rfl) (fun _ h => by cases h) fnExactCodeRead_row_tie rfl ⟨rfl, rfl⟩ (by kernel_rfl) rfl fnExactCodeRead_plain (by kernel_rfl)
end Go.Proofs.YtfdnadiliedikaaDoor
