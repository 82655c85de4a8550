/-
  OUR OWN TEXT. A loop begun elsewhere, the other way about, on the other side; it comes to no point twice. No program stands in it.
-/
import Derived.Test.YtfdnadiliedikaaDoorLoopM2
namespace Go.Proofs.YtfdnadiliedikaaDoor
theorem hasP_back (a b p : P2) : hasP b a p = hasP a b p := has_back _ _ _ _ _ _
theorem meetP_back1 (a b c d : P2) : meetP b a c d = meetP a b c d := meet_back1 _ _ _ _ _ _ _ _
theorem meetP_back2 (a b c d : P2) : meetP a b d c = meetP a b c d := meet_back2 _ _ _ _ _ _ _ _
theorem sgP_back (a b : P2) : sgP b a = sgP a b := sgB_back _ _ _ _
theorem ptAt_lt {l : List P2} {i : Nat} (h : i < l.length) : ptAt l i = l[i] := by simp [ptAt, h]

/-! ### Begun elsewhere -/
def rot (k : Nat) (l : List P2) : List P2 := l.drop k ++ l.take k
theorem rot_len {k : Nat} {l : List P2} (hk : k ≤ l.length) : (rot k l).length = l.length := by simp [rot]; omega
theorem rot_at {k : Nat} {l : List P2} (hk : k < l.length) {i : Nat} (hi : i < l.length) : ptAt (rot k l) i = ptAt l ((i + k) % l.length) := by
  unfold ptAt rot
  rcases Nat.lt_or_ge (i + k) l.length with h | h
  · rw [Nat.mod_eq_of_lt h, List.getElem?_append_left (by simp; omega)]
    simp [Nat.add_comm]
  · have e : (i + k) % l.length = i + k - l.length := by
      rw [Nat.mod_eq_sub_mod h, Nat.mod_eq_of_lt (by omega)]
    rw [e, List.getElem?_append_right (by simp; omega)]
    simp only [List.length_drop]
    rw [List.getElem?_take_of_lt (by omega)]
    congr 2; omega
theorem rot_nxt {k : Nat} {l : List P2} (hk : k < l.length) (i : Nat) : (nxt (rot k l) i + k) % l.length = nxt l ((i + k) % l.length) := by
  unfold nxt
  rw [rot_len (by omega)]
  simp [Nat.add_right_comm]
theorem rot_edge {k : Nat} {l : List P2} (hk : k < l.length) {i : Nat} (hi : i < l.length) : ptAt (rot k l) (nxt (rot k l) i) = ptAt l (nxt l ((i + k) % l.length)) := by
  rw [rot_at hk (by have := nxt_lt (l := rot k l) (i := i) (by rw [rot_len (by omega)]; omega); rwa [rot_len (by omega)] at this), rot_nxt hk i]
theorem mod_inj {n k i j : Nat} (hk : k < n) (hi : i < n) (hj : j < n) (h : (i + k) % n = (j + k) % n) : i = j := by
  rcases Nat.lt_or_ge (i + k) n with a | a <;> rcases Nat.lt_or_ge (j + k) n with b | b
  · rw [Nat.mod_eq_of_lt a, Nat.mod_eq_of_lt b] at h; omega
  · rw [Nat.mod_eq_of_lt a, Nat.mod_eq_sub_mod b, Nat.mod_eq_of_lt (by omega)] at h; omega
  · rw [Nat.mod_eq_of_lt b, Nat.mod_eq_sub_mod a, Nat.mod_eq_of_lt (by omega)] at h; omega
  · rw [Nat.mod_eq_sub_mod a, Nat.mod_eq_sub_mod b, Nat.mod_eq_of_lt (by omega), Nat.mod_eq_of_lt (by omega)] at h; omega
theorem OkL.rot {l : List P2} (h : OkL l) {k : Nat} (hk : k < l.length) : OkL (rot k l) := by
  have hl := rot_len (k := k) (l := l) (by omega)
  have hp : ∀ i, (i + k) % l.length < l.length := fun i => Nat.mod_lt _ (by omega)
  have hn : ∀ i, nxt (YtfdnadiliedikaaDoor.rot k l) i < l.length := fun i => by have := nxt_lt (l := YtfdnadiliedikaaDoor.rot k l) (i := i) (by omega); omega
  refine ⟨by rw [hl]; exact h.lo, by rw [hl]; exact h.hi, fun i hi => ?_, fun i hi => ?_, fun i j hi hj n1 n2 n3 => ?_⟩
  · rw [hl] at hi
    unfold sgE; rw [rot_at hk hi, rot_edge hk hi]; exact h.seg _ (hp i)
  · rw [hl] at hi
    unfold backE; rw [rot_edge hk (hn i), rot_nxt hk i, rot_at hk (hn i), rot_nxt hk i, rot_at hk hi]; exact h.back _ (hp i)
  · rw [hl] at hi hj
    unfold meetE; rw [rot_at hk hi, rot_edge hk hi, rot_at hk hj, rot_edge hk hj]
    refine h.apart _ _ (hp i) (hp j) (fun e => n1 (mod_inj hk hj hi e)) (fun e => n2 ?_) (fun e => n3 ?_)
    · rw [← rot_nxt hk j] at e; exact mod_inj hk (hn j) hi e
    · rw [← rot_nxt hk i] at e; exact mod_inj hk (hn i) hj e

/-! ### The other way about -/
theorem rev_at {l : List P2} {i : Nat} (hi : i < l.length) : ptAt l.reverse i = ptAt l (l.length - 1 - i) := by
  unfold ptAt; rw [List.getElem?_reverse hi]
/-- The edge that goes back over the one at a place. -/
def rvE (l : List P2) (i : Nat) : Nat := l.length - 1 - nxt l i
theorem rvE_lt {l : List P2} {i : Nat} (hi : i < l.length) : rvE l i < l.length := by unfold rvE; omega
theorem nxt_rev (l : List P2) (i : Nat) : nxt l.reverse i = nxt l i := by unfold nxt; simp
theorem rvE_nxt {l : List P2} {i : Nat} (hi : i < l.length) : nxt l (rvE l i) = l.length - 1 - i := by
  unfold rvE
  rcases nxt_cases hi with ⟨h1, e⟩ | ⟨h1, e⟩ <;> rw [e] <;> unfold nxt
  · rw [Nat.mod_eq_of_lt (by omega)]; omega
  · have : l.length - 1 - 0 + 1 = l.length := by omega
    rw [this, Nat.mod_self]; omega
theorem rev_first {l : List P2} {i : Nat} (hi : i < l.length) : ptAt l.reverse i = ptAt l (nxt l (rvE l i)) := by rw [rev_at hi, rvE_nxt hi]
theorem rev_last {l : List P2} {i : Nat} (hi : i < l.length) : ptAt l.reverse (nxt l.reverse i) = ptAt l (rvE l i) := by
  rw [nxt_rev, rev_at (nxt_lt (by omega))]; rfl
theorem rev_last' {l : List P2} {i : Nat} (hi : i < l.length) : ptAt l.reverse (nxt l i) = ptAt l (rvE l i) := by
  rw [rev_at (nxt_lt (by omega))]; rfl
theorem rvE_inj {l : List P2} {i j : Nat} (hi : i < l.length) (hj : j < l.length) (h : rvE l i = rvE l j) : i = j := by
  have := rvE_nxt hi; rw [h, rvE_nxt hj] at this; omega
/-- Who is behind it there is ahead of it here. -/
theorem rvE_behind {l : List P2} {i : Nat} (hi : i < l.length) : nxt l (rvE l (nxt l i)) = rvE l i := by
  rw [rvE_nxt (nxt_lt (by omega))]; rfl
theorem OkL.rev {l : List P2} (h : OkL l) : OkL l.reverse := by
  have hl : l.reverse.length = l.length := by simp
  have h0 := h.lo
  refine ⟨by rw [hl]; exact h.lo, by rw [hl]; exact h.hi, fun i hi => ?_, fun i hi => ?_, fun i j hi hj n1 n2 n3 => ?_⟩
  · rw [hl] at hi
    unfold sgE; rw [rev_first hi, rev_last hi, sgP_back]; exact h.seg _ (rvE_lt hi)
  · rw [hl] at hi
    have hn : nxt l i < l.length := nxt_lt (by omega)
    have hb := h.back (rvE l (nxt l i)) (rvE_lt hn)
    unfold backE at hb ⊢
    simp only [nxt_rev]
    rw [rev_last' hn, rev_last' hi, rev_first hi, hasP_back (ptAt l (rvE l i)), hasP_back (ptAt l (rvE l (nxt l i))), Bool.or_comm]
    rw [rvE_behind hi] at hb
    exact hb
  · rw [hl] at hi hj
    unfold meetE; rw [rev_first hi, rev_last hi, rev_first hj, rev_last hj, meetP_back1, meetP_back2]
    refine h.apart _ _ (rvE_lt hi) (rvE_lt hj) (fun e => n1 (rvE_inj hj hi e)) (fun e => n3 ?_) (fun e => n2 ?_)
    · rw [nxt_rev]; rw [rvE_nxt hj] at e; unfold rvE at e; have := nxt_lt (l := l) (i := i) (by omega); omega
    · rw [nxt_rev]; rw [rvE_nxt hi] at e; unfold rvE at e; have := nxt_lt (l := l) (i := j) (by omega); omega

/-! ### On the other side -/
/-- A point by which nothing turns but the side. -/
structure Side (f : P2 → P2) : Prop where
  sg : ∀ a b, sgP a b = true → sgP (f a) (f b) = true
  has : ∀ a b p, hasP (f a) (f b) (f p) = hasP a b p
  meet : ∀ a b c d, meetP (f a) (f b) (f c) (f d) = meetP a b c d
theorem map_at {f : P2 → P2} {l : List P2} {i : Nat} (hi : i < l.length) : ptAt (l.map f) i = f (ptAt l i) := by simp [ptAt, hi]
theorem map_nxt (f : P2 → P2) (l : List P2) (i : Nat) : nxt (l.map f) i = nxt l i := by simp [nxt]
theorem OkL.side {l : List P2} (h : OkL l) {f : P2 → P2} (hf : Side f) : OkL (l.map f) := by
  have hl : (l.map f).length = l.length := by simp
  have h0 := h.lo
  have hn : ∀ i, nxt l i < l.length := fun i => nxt_lt (by omega)
  refine ⟨by rw [hl]; exact h.lo, by rw [hl]; exact h.hi, fun i hi => ?_, fun i hi => ?_, fun i j hi hj n1 n2 n3 => ?_⟩
  · rw [hl] at hi
    unfold sgE; rw [map_nxt, map_at hi, map_at (hn i)]; exact hf.sg _ _ (h.seg i hi)
  · rw [hl] at hi
    unfold backE; simp only [map_nxt]; rw [map_at hi, map_at (hn i), map_at (hn _), hf.has, hf.has]; exact h.back i hi
  · rw [hl] at hi hj
    rw [map_nxt] at n2 n3
    unfold meetE; simp only [map_nxt]; rw [map_at hi, map_at (hn i), map_at hj, map_at (hn j), hf.meet]
    exact h.apart i j hi hj n1 n2 n3
def mirP (p : P2) : P2 := (9 - p.1, p.2)
def swpP (p : P2) : P2 := (p.2, p.1)
theorem mir_side : Side mirP := ⟨fun a b h => by
    have h' := (sgB_iff a.1 a.2 b.1 b.2).1 h
    exact (sgB_iff _ _ _ _).2 (by simp only [mirP]; omega), fun a b p => has_mir _ _ _ _ _ _, fun a b c d => meet_mir _ _ _ _ _ _ _ _⟩
theorem swp_side : Side swpP := ⟨fun a b h => by
    have h' := (sgB_iff a.1 a.2 b.1 b.2).1 h
    exact (sgB_iff _ _ _ _).2 (by simp only [swpP]; omega), fun a b p => has_swap _ _ _ _ _ _, fun a b c d => meet_swap _ _ _ _ _ _ _ _⟩

/-! ### No point twice -/
theorem hasP_first (a b : P2) : hasP a b a = true := has_first _ _ _ _
theorem hasP_last (a b : P2) : hasP a b b = true := has_last _ _ _ _
theorem meetP_of_has {a b c d : P2} (h : hasP a b c = true) : meetP a b c d = true := by
  unfold meetP meetC endB; unfold hasP at h; rw [h]; simp
theorem OkL.twice {l : List P2} (h : OkL l) {i k : Nat} (hi : i < l.length) (hk : k < l.length) (hne : i ≠ k) : ptAt l i ≠ ptAt l k := by
  intro e
  have hs : ∀ a b : P2, sgP a b = true → a ≠ b := fun a b hab hab' => by
    subst hab'; unfold sgP at hab; rw [sgB_self] at hab; cases hab
  by_cases h1 : nxt l k = i
  · exact hs _ _ (h.seg k hk) (by rw [h1]; exact e.symm)
  by_cases h2 : nxt l i = k
  · exact hs _ _ (h.seg i hi) (by rw [h2]; exact e)
  have := h.apart i k hi hk (fun e => hne e.symm) h1 h2
  unfold meetE at this
  rw [meetP_of_has (by rw [← e]; exact hasP_first _ _)] at this
  cases this
/-- Edges meet just where they must. -/
theorem OkL.near {l : List P2} (h : OkL l) {i k : Nat} (hi : i < l.length) (hk : k < l.length) : meetE l i k = (decide (k = i) || decide (nxt l k = i) || decide (nxt l i = k)) := by
  by_cases e1 : k = i
  · subst e1; simp only [decide_true, Bool.true_or]
    exact meetP_of_has (hasP_first _ _)
  by_cases e2 : nxt l k = i
  · simp only [e2, decide_true, Bool.or_true, Bool.true_or]
    rw [← meetE_comm]; unfold meetE; rw [e2]
    exact meetP_of_has (hasP_last _ _)
  by_cases e3 : nxt l i = k
  · simp only [e3, decide_true, Bool.or_true]
    unfold meetE; rw [e3]
    exact meetP_of_has (hasP_last _ _)
  simp only [e1, e2, e3, decide_false, Bool.or_self]
  exact h.apart i k hi hk e1 e2 e3
end Go.Proofs.YtfdnadiliedikaaDoor
