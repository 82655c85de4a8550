/-
  OUR OWN TEXT. Walks of a function that sends and receives within one goroutine: in a frame of an ordinary call a communication that need not wait is one step more. Laws of our own, each from the kit's.
-/
import Derived.Conc.LoneCalls
import Derived.RowKit
import Derived.WalkKit
namespace Go.Proofs.YtfdnadiliedikaaDoor
open Go.Conc Go.RowKit

section
variable {P : Program} {Q : Exit → Act → World → Prop} {a : Act} {w : World}
/-- From this code on, in a frame of an ordinary call, the walk comes to an exit of which Q holds. -/
def wpN (P : Program) (c : Code) (Q : Exit → Act → World → Prop) (a : Act) (w : World) : Prop :=
  ∀ (b : Frame), b.kind = .normal → ∀ (k : List Item) (cs : List Frame), ∃ e a' w', Q e a' w' ∧ Arrives P (lone (b.at a (.code c :: k)) cs w) b k cs e a' w'
theorem wpN_of {c : Code} (h : c.wp P Q a w) : wpN P c Q a w := fun b _ k cs => h b k cs
theorem wpN_seq {x y : Code} (h : wpN P x (Exit.then (wpN P y Q) Q) a w) : wpN P (Code.seq x y) Q a w := by
  intro b hb k cs
  obtain ⟨e, a₁, w₁, hq, harr⟩ := h b hb (.code y :: k) cs
  have keep : ∀ e', e' ≠ .normal → Q e' a₁ w₁ → Arrives P (lone (b.at a (.code x :: .code y :: k)) cs w) b (.code y :: k) cs e' a₁ w₁ → ∃ e a' w', Q e a' w' ∧ Arrives P (lone (b.at a (.code (Code.seq x y) :: k)) cs w) b k cs e a' w' :=
    fun e' he q r => ⟨e', a₁, w₁, q, .of_steps (.one step_seq) (.pass (x := .code y) rfl (fun _ _ => .inl he) r)⟩
  by_cases he : e = .normal
  · subst he
    obtain ⟨e₂, a₂, w₂, hq₂, harr₂⟩ := hq b hb k cs
    exact ⟨e₂, a₂, w₂, hq₂, .of_steps (.head step_seq harr) harr₂⟩
  · refine keep e he ?_ harr
    cases e <;> first | exact absurd rfl he | exact hq
theorem wpN_block {id : Nat} {c : Code} (h : wpN P c (Exit.inBlock id Q) a w) : wpN P (Code.block id c) Q a w := by
  intro b hb k cs
  obtain ⟨e, a₁, w₁, hq, harr⟩ := h b hb (.inBlock id :: k) cs
  cases e with
  | normal => exact ⟨.normal, a₁, w₁, hq, .head step_block (Steps.trans harr (.one step_inBlock))⟩
  | exit id' =>
    by_cases hid : id' = id
    · subst hid
      have hq' : Q .normal a₁ w₁ := by simpa [Exit.inBlock] using hq
      exact ⟨.normal, a₁, w₁, hq', .head step_block (harr k (by simp [exitTo]))⟩
    · have hq' : Q (.exit id') a₁ w₁ := by simpa [Exit.inBlock, hid] using hq
      refine ⟨.exit id', a₁, w₁, hq', fun k' hk => .head step_block (harr k' ?_)⟩
      have hne : (id == id') = false := by simpa using fun h => hid h.symm
      simp [exitTo, hne, hk]
  | goto l => exact ⟨.goto l, a₁, w₁, hq, fun k' hk => .head step_block (harr k' (by simp [gotoIn, hk]))⟩
  | ret => exact ⟨.ret, a₁, w₁, hq, .of_steps (.one step_block) harr⟩
  | panic ch => exact ⟨.panic ch, a₁, w₁, hq, .of_steps (.one step_block) harr⟩
  | outgrown => exact ⟨.outgrown, a₁, w₁, hq, .of_steps (b := b) (k := k) (cs := cs) (e := .outgrown) (.one step_block) harr⟩
theorem wpN_loop {c : Code} (n : Nat) (I : Nat → Act → World → Prop) (h₀ : I n a w)
    (round : ∀ j a w, I (j + 1) a w → wpN P c (Exit.then (I j) Q) a w) (last : ∀ a w, I 0 a w → wpN P c (Exit.then (fun _ _ => False) Q) a w) : wpN P (Code.loop c) Q a w := by
  intro b hb k cs
  have out : ∀ (a₀ : Act) (w₀ : World) (e : Exit) (a₁ : Act) (w₁ : World), e ≠ .normal → Q e a₁ w₁ → Arrives P (lone (b.at a₀ (.code c :: .inLoop c :: k)) cs w₀) b (.inLoop c :: k) cs e a₁ w₁ →
      ∃ e a' w', Q e a' w' ∧ Arrives P (lone (b.at a₀ (.code c :: .inLoop c :: k)) cs w₀) b k cs e a' w' :=
    fun a₀ w₀ e a₁ w₁ he q r => ⟨e, a₁, w₁, q, .pass (x := .inLoop c) rfl (fun _ _ => .inl he) r⟩
  have key : ∀ n a w, I n a w → ∃ e a' w', Q e a' w' ∧ Arrives P (lone (b.at a (.code c :: .inLoop c :: k)) cs w) b k cs e a' w' := by
    intro n
    induction n with
    | zero =>
      intro a w hI
      obtain ⟨e, a₁, w₁, hq, harr⟩ := last a w hI b hb (.inLoop c :: k) cs
      by_cases he : e = .normal
      · subst he; exact hq.elim
      · refine out a w e a₁ w₁ he ?_ harr
        cases e <;> first | exact absurd rfl he | exact hq
    | succ n ih =>
      intro a w hI
      obtain ⟨e, a₁, w₁, hq, harr⟩ := round n a w hI b hb (.inLoop c :: k) cs
      by_cases he : e = .normal
      · subst he
        obtain ⟨e₂, a₂, w₂, hq₂, harr₂⟩ := ih a₁ w₁ hq
        exact ⟨e₂, a₂, w₂, hq₂, .of_steps (Steps.trans harr (.one step_inLoop)) harr₂⟩
      · refine out a w e a₁ w₁ he ?_ harr
        cases e <;> first | exact absurd rfl he | exact hq
  obtain ⟨e, a', w', hq, harr⟩ := key n a w h₀
  exact ⟨e, a', w', hq, .of_steps (.one step_loop) harr⟩
theorem calls_of_wpN {f : FuncId} {fn : Func} {c : Code} {args : Array Value} {R : Ending → World → Prop} (hf : P.funcs[f]? = some fn) (hb : fn.body = some c)
    (h : wpN P c (bodyPost P fn R) { tmps := args ++ Array.replicate (fn.ntmps - args.size) undef, defers := [] } w) : Calls P f args w R := by
  intro cs
  let b : Frame := { (default : Frame) with fn := f, kind := .normal }
  have henter : Frame.enter P f args .normal = b.at { tmps := args ++ Array.replicate (fn.ntmps - args.size) undef, defers := [] } [.code c] := by simp [Frame.enter, Frame.at, hf, hb, b]
  obtain ⟨e, a', w', hq, harr⟩ := h b rfl [] cs
  rw [← henter] at harr
  cases e with
  | normal =>
    obtain ⟨hd, v, hr, hR⟩ := hq
    exact ⟨.returned v, w', _, hR, Steps.trans harr (.one step_end), rfl, rfl, hd, rfl, fn, hf, hr⟩
  | ret =>
    obtain ⟨hd, v, hr, hR⟩ := hq
    obtain ⟨todo, hs⟩ := harr
    exact ⟨.returned v, w', _, hR, hs, rfl, rfl, hd, rfl, fn, hf, hr⟩
  | panic chain =>
    obtain ⟨hd, hR⟩ := hq
    obtain ⟨todo, hs⟩ := harr
    exact ⟨.panicked chain, w', _, hR, hs, rfl, rfl, hd, fn, hf⟩
  | exit id => exact hq.elim
  | goto l => exact hq.elim
  | outgrown => exact ⟨.outgrown, w', b, hq, harr.resolve_left (by simp [b]), rfl, trivial⟩
/-- The same of what is left of a region that is done in order. -/
def wpM (P : Program) (ops : Array Oper) (Q : Exit → Act → World → Prop) (l : List Nat) (a : Act) (w : World) : Prop :=
  ∀ (b : Frame), b.kind = .normal → ∀ (k : List Item) (cs : List Frame), ∃ e a' w', Q e a' w' ∧ Arrives P (lone (b.at a (.inRegion ops l :: k)) cs w) b k cs e a' w'
theorem wpN_region {id : Nat} {ops : Array Oper} (h : wpM P ops Q (List.range ops.size) a w) : wpN P (Code.region id ops false) Q a w :=
  fun b hb k cs => let ⟨e, a', w', q, r⟩ := h b hb k cs; ⟨e, a', w', q, .of_steps (.one step_region) r⟩
theorem wpM_of {ops : Array Oper} {l : List Nat} (h : wpOps P ops Q l a w) : wpM P ops Q l a w := fun b _ k cs => wp_ops l a w h b k cs
theorem wpM_done {ops : Array Oper} (h : Q .normal a w) : wpM P ops Q [] a w := fun _ _ _ _ => ⟨.normal, a, w, h, .one step_region_end⟩
theorem wpM_value {ops : Array Oper} {i : Nat} {rest : List Nat} {o : Oper} {v : Value} {w' : World} (ho : ops[i]? = some o) (hw : Region.wanted o (yielded ops a.tmps) = true)
    (hr : (execOp a.eval o).run P w = .ok (.value v) w') (h : wpM P ops Q rest (a.put o.dst v) w') : wpM P ops Q (i :: rest) a w := by
  intro b hb k cs
  obtain ⟨e, a', w'', hq, harr⟩ := h b hb k cs
  have hg := stepG_op (P := P) (b := b) (k := k) (cs := cs) (w := w) (rest := rest) ho hw
  have hfin : (b.at a (.inRegion ops (i :: rest) :: k)).finish v = b.at (a.put o.dst v) (.inRegion ops rest :: k) := by rw [Frame.finish_at, ho]; rfl
  refine ⟨e, a', w'', hq, .of_steps (.one (step_lone_go ?_)) harr⟩
  rw [hg, ← hfin]; simp [stepG.apply, hr]
variable {c cap s r : Nat} {buf : Array Value} {z z' v : Value} {tm closed : Bool}
theorem wpM_send {ops : Array Oper} {i : Nat} {rest : List Nat} {o : Oper} (ho : ops[i]? = some o) (hw : Region.wanted o (yielded ops a.tmps) = true)
    (hr : (execOp a.eval o).run P w = .ok (.comm #[scase c v z'] true .send) w) (hc : w.heap[c]? = some (.chan cap buf false s r tm)) (hroom : buf.size < cap)
    (h : wpM P ops Q rest (a.put o.dst undef) (w.setChan c cap (buf.push v) false (s + 1) r tm)) : wpM P ops Q (i :: rest) a w := by
  intro b hb k cs
  obtain ⟨e, a', w'', hq, harr⟩ := h b hb k cs
  have hst := step_lone_send_room (stepG_comm (b := b) (k := k) (cs := cs) (rest := rest) (main := true) ho hw (by rw [hb]; simp) hr) hc hroom
  rw [Frame.finish_at, ho] at hst
  exact ⟨e, a', w'', hq, .of_steps (.one hst) harr⟩
theorem wpM_recv {ops : Array Oper} {i : Nat} {rest : List Nat} {o : Oper} {ok : Bool} (ho : ops[i]? = some o) (hw : Region.wanted o (yielded ops a.tmps) = true)
    (hr : (execOp a.eval o).run P w = .ok (.comm #[rcase c z] true (.recv ok)) w) (hc : w.heap[c]? = some (.chan cap buf closed s r tm)) (hsome : 0 < buf.size)
    (h : wpM P ops Q rest (a.put o.dst (got ok (buf.getD 0 undef) true)) (w.setChan c cap (buf.extract 1 buf.size) closed s (r + 1) tm)) : wpM P ops Q (i :: rest) a w := by
  intro b hb k cs
  obtain ⟨e, a', w'', hq, harr⟩ := h b hb k cs
  have hst := step_lone_recv_buf ok (stepG_comm (b := b) (k := k) (cs := cs) (rest := rest) (main := true) ho hw (by rw [hb]; simp) hr) hc hsome
  rw [Frame.finish_at, ho] at hst
  exact ⟨e, a', w'', hq, .of_steps (.one hst) harr⟩
theorem wpM_shut {ops : Array Oper} {i : Nat} {rest : List Nat} {o : Oper} {ok : Bool} (ho : ops[i]? = some o) (hw : Region.wanted o (yielded ops a.tmps) = true)
    (hr : (execOp a.eval o).run P w = .ok (.comm #[rcase c z] true (.recv ok)) w) (hc : w.heap[c]? = some (.chan cap #[] true s r tm))
    (h : wpM P ops Q rest (a.put o.dst (got ok z false)) w) : wpM P ops Q (i :: rest) a w := by
  intro b hb k cs
  obtain ⟨e, a', w'', hq, harr⟩ := h b hb k cs
  have hst := step_lone_recv_shut ok (stepG_comm (b := b) (k := k) (cs := cs) (rest := rest) (main := true) ho hw (by rw [hb]; simp) hr) hc
  rw [Frame.finish_at, ho] at hst
  exact ⟨e, a', w'', hq, .of_steps (.one hst) harr⟩
end
end Go.Proofs.YtfdnadiliedikaaDoor
