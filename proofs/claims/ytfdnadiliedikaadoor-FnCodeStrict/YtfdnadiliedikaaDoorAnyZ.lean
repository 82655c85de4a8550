/-
  OUR OWN TEXT. A region that draws, whose last operation writes what the others read: behind that one the condition on the world need not hold any more.
-/
import Derived.Test.YtfdnadiliedikaaDoorRoundQ
namespace Go.Proofs.YtfdnadiliedikaaDoor
open Go.RowKit Go.Sort

section
variable {P : Program} {md : Region.Mode} {ops : Array Oper} {Q : Exit → Act → World → Prop} {S : World → Prop} {z : Nat}
/-- Whatever order is picked: S holds behind every operation but number z. -/
def wpAnyZ (P : Program) (md : Region.Mode) (ops : Array Oper) (Q : Exit → Act → World → Prop) (S : World → Prop) (z : Nat) : Nat → Array Bool → Act → World → Prop
  | 0, done, a, w => Region.ready md ops done = [] ∧ Q .normal a w
  | n + 1, done, a, w => (Region.ready md ops done = [] → Q .normal a w) ∧ ∀ j ∈ Region.ready md ops done, wpOp P ops Q j (fun b u => (j ≠ z → S u) ∧ wpAnyZ P md ops Q S z n (done.setIfInBounds j true) b u) a w
theorem wpAny_of_Z : ∀ (n : Nat) (done : Array Bool) (a : Act) (w : World), wpAnyZ P md ops Q S z n done a w → wpAny P md ops Q n done a w
  | 0, _, _, _, h => h
  | n + 1, _, _, _, h => ⟨h.1, fun j hj => wpOp_mono (fun b u k => wpAny_of_Z n _ b u k.2) (h.2 j hj)⟩
theorem wpAnyZ_first {i : Nat} {oi oz : Oper} {v : Value} (hi : ops[i]? = some oi) (hz : ops[z]? = some oz) (hw : (oz.after.any fun e => Region.binds md e && e.on == i) = true) (hne : Region.noSelect ops = true)
    (hQ : ∀ c a w, Q (.panic c) (a.put oi.dst v) w → Q (.panic c) a w) :
    ∀ (n : Nat) (done : Array Bool) (a : Act) (w : World),
      (∀ j oj, ops[j]? = some oj → j ≠ i → done.getD j true = false → (∀ e ∈ oj.after, Region.binds md e = true → e.on ≠ i) → oi.apart ops oj = true) →
      i ∈ Region.ready md ops done → YieldsIf P ops S oi v a → S w → wpAnyZ P md ops Q S z n (done.setIfInBounds i true) (a.put oi.dst v) w → wpAnyZ P md ops Q S z (n + 1) done a w := by
  have hsel := Region.noSelect_spec hne
  have notz : ∀ (done : Array Bool), i ∈ Region.ready md ops done → z ∉ Region.ready md ops done := by
    intro done h1 h2
    obtain ⟨h0, _⟩ := mem_ready.1 h1
    obtain ⟨_, o, ho, hall⟩ := mem_ready.1 h2
    rw [hz] at ho
    obtain rfl := Option.some.inj ho
    obtain ⟨k, hk, he⟩ := Array.any_eq_true.1 hw
    rw [Bool.and_eq_true, beq_iff_eq] at he
    have hl := hall _ (Array.getElem_mem hk) he.1
    rw [he.2] at hl
    by_cases hb : i < done.size
    · simp [Array.getD, hb] at h0 hl
      rw [h0] at hl
      cases hl
    · simp [Array.getD, hb] at hl
  intro n
  induction n with
  | zero =>
    intro done a w _ hr hy hS H
    refine ⟨fun h => (by rw [h] at hr; cases hr), fun j hj => ?_⟩
    rcases Nat.decEq j i with c | c
    · exact absurd (ready_mono hj c) (by rw [H.1]; exact List.not_mem_nil)
    · subst c
      exact hy.wpOp hi hS ⟨fun _ => hS, H⟩
  | succ n ih =>
    intro done a w hfree hr hy hS H
    refine ⟨fun h => (by rw [h] at hr; cases hr), fun j hj => ?_⟩
    rcases Nat.decEq j i with c | c
    · have hjz : j ≠ z := fun e => notz done hr (e ▸ hj)
      obtain ⟨hun, oj, hoj, hall⟩ := mem_ready.1 hj
      have hno : ∀ e ∈ oj.after, Region.binds md e = true → e.on ≠ i := by
        intro e he hb heq
        have h0 := (mem_ready.1 hr).1
        have h1 := hall e he hb
        rw [heq] at h1
        by_cases hb : i < done.size
        · simp [Array.getD, hb] at h0 h1
          rw [h0] at h1
          cases h1
        · simp [Array.getD, hb] at h1
      have key := wpOp_putIf hoj (hfree j oj hoj c hun hno) (fun cs b => hsel i oi cs b hi) (fun cs b => hsel j oj cs b hoj) hQ hy (H.2 j (ready_mono hj c))
      refine wpOp_mono (fun b u k => ⟨fun _ => k.2.1 hjz, ih (done.setIfInBounds j true) b u ?_ (ready_mono hr (Ne.symm c)) k.1 (k.2.1 hjz) ?_⟩) key
      · intro k' ok hk hki hu hn'
        refine hfree k' ok hk hki ?_ hn'
        rcases Nat.decEq j k' with d | d
        · rwa [getD_set_ne true d] at hu
        · subst d; exact hun
      · rw [Array.setIfInBounds_comm _ _ c]
        exact k.2.2
    · subst c
      exact hy.wpOp hi hS ⟨fun _ => hS, H⟩
theorem wpAnyZ_take {i : Nat} {oi oz : Oper} {v : Value} {n : Nat} {done : Array Bool} {a : Act} {w : World} (hi : ops[i]? = some oi) (hz : ops[z]? = some oz) (hw : (oz.after.any fun e => Region.binds md e && e.on == i) = true)
    (hs : Region.noSelect ops = true) (hf : Region.free md ops done i = true) (hr : (Region.ready md ops done).contains i = true)
    (hQ : ∀ c a w, Q (.panic c) (a.put oi.dst v) w → Q (.panic c) a w) (hy : YieldsIf P ops S oi v a) (hS : S w)
    (h : wpAnyZ P md ops Q S z n (done.setIfInBounds i true) (a.put oi.dst v) w) : wpAnyZ P md ops Q S z (n + 1) done a w :=
  wpAnyZ_first hi hz hw hs hQ n done a w (Region.free_spec hi hf) (by simpa using hr) hy hS h
theorem wpAnyZ_one {i n : Nat} {o : Oper} {done : Array Bool} {a : Act} {w : World} (hr : Region.ready md ops done = [i]) (ho : ops[i]? = some o) (hg : o.guard = none)
    (h : o.wp P a w (fun b u => (i ≠ z → S u) ∧ wpAnyZ P md ops Q S z n (done.setIfInBounds i true) b u) Q) : wpAnyZ P md ops Q S z (n + 1) done a w := by
  refine ⟨fun h0 => (by rw [hr] at h0; cases h0), fun j hj => ?_⟩
  rw [hr] at hj
  obtain rfl := List.mem_singleton.1 hj
  exact wpOp_now ho (by simp [Region.wanted, hg]) h
theorem wpAnyZ_done {n : Nat} {done : Array Bool} {a : Act} {w : World} (hr : Region.ready md ops done = []) (h : Q .normal a w) : wpAnyZ P md ops Q S z n done a w := by
  cases n with
  | zero => exact ⟨hr, h⟩
  | succ n => exact ⟨fun _ => h, fun j hj => by rw [hr] at hj; cases hj⟩
/-- The beginning. -/
theorem wp_region_Z {id : Nat} {a : Act} {w : World} (hm : P.follows .mixedOrders = true) (h : wpAnyZ P .any ops Q S z ops.size (Array.replicate ops.size false) a w.drew) : (Code.region id ops true).wp P Q a w :=
  wp_region_any hm (wpAny_of_Z _ _ _ _ h)
end
end Go.Proofs.YtfdnadiliedikaaDoor
