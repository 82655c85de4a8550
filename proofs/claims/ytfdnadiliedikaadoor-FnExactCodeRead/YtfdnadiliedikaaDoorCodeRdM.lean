/-
  OUR OWN TEXT. The path of a text; bytes alone.
-/
import Derived.Test.YtfdnadiliedikaaDoorCodeTxM
import Derived.Test.YtfdnadiliedikaaDoorSCodeS
import Derived.Test.YtfdnadiliedikaaDoorPtRead
namespace Go.Proofs.YtfdnadiliedikaaDoor
open Go.RowKit

theorem digB_of {k : Nat} (hk : k < 10) : digB (UInt8.ofNat (48 + k)) = true ∧ ((UInt8.ofNat (48 + k)).toNat : Int) - 48 = k := dig_of k hk
/-- The turn of a line, with its end. -/
def lineP (k : Nat) (y : List UInt8) : Option P2 :=
  match y with
  | [a, b, c, d, e, f, g, h, i] => if [a, b] = cwL k ∧ c = 32 ∧ d = 88 ∧ digB e = true ∧ f = 32 ∧ g = 89 ∧ digB h = true ∧ i = 10 then some (((e.toNat : Int) - 48), ((h.toNat : Int) - 48)) else none
  | _ => none
theorem lineP_back {k : Nat} {p : P2} (h : okP p = true) : lineP k (lnL k p) = some p := by
  rw [lnL_9 h]
  obtain ⟨⟨h0, h1⟩, h2, h3⟩ := (okP_iff p).1 h
  obtain ⟨d1, e1⟩ := digB_of (k := p.1.toNat) (by omega)
  obtain ⟨d2, e2⟩ := digB_of (k := p.2.toNat) (by omega)
  have hp : (((UInt8.ofNat (48 + p.1.toNat)).toNat : Int) - 48, ((UInt8.ofNat (48 + p.2.toNat)).toNat : Int) - 48) = p := Prod.ext (by rw [e1]; simp only; omega) (by rw [e2]; simp only; omega)
  unfold cwL
  by_cases hk : k = 0
  · rw [if_pos hk]
    simp only [List.cons_append, List.nil_append, lineP]
    rw [if_pos ⟨by unfold cwL; rw [if_pos hk], trivial, trivial, d1, trivial, trivial, d2, trivial⟩, hp]
  · rw [if_neg hk]
    simp only [List.cons_append, List.nil_append, lineP]
    rw [if_pos ⟨by unfold cwL; rw [if_neg hk], trivial, trivial, d1, trivial, trivial, d2, trivial⟩, hp]
theorem lineP_only {k : Nat} {y : List UInt8} {p : P2} (h : lineP k y = some p) : okP p = true ∧ y = lnL k p := by
  unfold lineP at h
  split at h
  · rename_i a b c d e f g h' i
    split at h
    · rename_i hc
      obtain ⟨h1, rfl, rfl, h4, rfl, rfl, h7, rfl⟩ := hc
      obtain ⟨m, hm, rfl⟩ := digB_cases h4
      obtain ⟨n, hn, rfl⟩ := digB_cases h7
      cases h
      have e1 := (digB_of hm).2
      have e2 := (digB_of hn).2
      rw [e1, e2]
      have hok : okP ((m : Int), (n : Int)) = true := by rw [okP_iff]; simp only; omega
      refine ⟨hok, ?_⟩
      rw [lnL_9 hok, ← h1]
      simp
    · cases h
  · cases h
/-- The turns of lines, from a place on. -/
def turnsP : Nat → List (List UInt8) → Option (List P2)
  | _, [] => some []
  | k, y :: r => match lineP k y with
    | none => none
    | some p => (turnsP (k + 1) r).map (p :: ·)
theorem turnsP_snoc (xs : List (List UInt8)) (x : List UInt8) : ∀ k, turnsP k (xs ++ [x]) = match turnsP k xs with
    | none => none
    | some l => (lineP (k + xs.length) x).map (fun p => l ++ [p]) := by
  induction xs with
  | nil => intro k; cases h : lineP k x <;> simp [turnsP, h]
  | cons y ys ih =>
    intro k
    simp only [List.cons_append, turnsP, List.length_cons]
    cases h : lineP k y with
    | none => rfl
    | some p =>
      have e : k + (ys.length + 1) = k + 1 + ys.length := by omega
      simp only [ih, e]
      cases turnsP (k + 1) ys with
      | none => rfl
      | some l => cases lineP (k + 1 + ys.length) x <;> rfl
theorem turnsP_none {xs : List (List UInt8)} : ∀ {k j : Nat}, turnsP k (xs.take j) = none → turnsP k xs = none := by
  induction xs with
  | nil => intro k j h; simpa using h
  | cons y ys ih =>
    intro k j h
    cases j with
    | zero => simp [turnsP] at h
    | succ j =>
      simp only [List.take_succ_cons, turnsP] at h ⊢
      cases hy : lineP k y with
      | none => rfl
      | some p =>
        rw [hy] at h
        simp only [Option.map_eq_none_iff] at h ⊢
        exact ih h
theorem turnsP_len {xs : List (List UInt8)} : ∀ {k : Nat} {l : List P2}, turnsP k xs = some l → l.length = xs.length := by
  induction xs with
  | nil => intro k l h; simp [turnsP] at h; subst h; rfl
  | cons y ys ih =>
    intro k l h
    simp only [turnsP] at h
    cases hy : lineP k y with
    | none => rw [hy] at h; cases h
    | some p =>
      rw [hy] at h
      simp only [Option.map_eq_some_iff] at h
      obtain ⟨q, hq, rfl⟩ := h
      simp [ih hq]
/-- Lines, each with its end; what is behind the last end is a line, if it is anything. -/
def lnsF : Nat → List UInt8 → List (List UInt8)
  | 0, _ => []
  | n + 1, z => if z = [] then [] else if (10 : UInt8) ∈ z then (z.take (z.idxOf 10 + 1)) :: lnsF n (z.drop (z.idxOf 10 + 1)) else [z]
def lnsW (z : List UInt8) : List (List UInt8) := lnsF z.length z
theorem idx_word {x r : List UInt8} (h : (10 : UInt8) ∉ x) : (x ++ 10 :: r).idxOf 10 = x.length := by
  rw [List.idxOf_append, if_neg h]; simp
theorem lnsF_more : ∀ (n m : Nat) (z : List UInt8), z.length ≤ n → z.length ≤ m → lnsF n z = lnsF m z := by
  intro n
  induction n with
  | zero =>
    intro m z h _
    obtain rfl := List.eq_nil_of_length_eq_zero (Nat.le_zero.1 h)
    cases m <;> simp [lnsF]
  | succ n ih =>
    intro m z h hm
    cases m with
    | zero =>
      obtain rfl := List.eq_nil_of_length_eq_zero (Nat.le_zero.1 hm)
      simp [lnsF]
    | succ m =>
      simp only [lnsF]
      by_cases hz : z = []
      · rw [if_pos hz, if_pos hz]
      · rw [if_neg hz, if_neg hz]
        by_cases hx : (10 : UInt8) ∈ z
        · rw [if_pos hx, if_pos hx, ih m _ (by rw [List.length_drop]; omega) (by rw [List.length_drop]; omega)]
        · rw [if_neg hx, if_neg hx]
theorem lnsW_nil : lnsW [] = [] := rfl
theorem lnsW_word {x r : List UInt8} (h : (10 : UInt8) ∉ x) : lnsW (x ++ 10 :: r) = (x ++ [10]) :: lnsW r := by
  have hl : (x ++ 10 :: r).length = (x.length + r.length) + 1 := by simp; omega
  unfold lnsW
  rw [hl]
  simp only [lnsF]
  rw [if_neg (by simp), if_pos (by simp), idx_word h]
  have e1 : (x ++ 10 :: r).take (x.length + 1) = x ++ [10] := by
    have := List.take_left (l₁ := x ++ [10]) (l₂ := r)
    simpa using this
  have e2 : (x ++ 10 :: r).drop (x.length + 1) = r := by
    simp
  rw [e1, e2, lnsF_more _ r.length r (by omega) (Nat.le_refl _)]
theorem lnsW_free {x : List UInt8} (h : (10 : UInt8) ∉ x) (hx : x ≠ []) : lnsW x = [x] := by
  unfold lnsW
  obtain ⟨n, hn⟩ : ∃ n, x.length = n + 1 := ⟨x.length - 1, by have := List.length_pos_iff.2 hx; omega⟩
  rw [hn]
  simp only [lnsF]
  rw [if_neg hx, if_neg h]
theorem lnsW_len : ∀ (n : Nat) (z : List UInt8), (lnsF n z).length ≤ z.length := by
  intro n
  induction n with
  | zero => intro z; simp [lnsF]
  | succ n ih =>
    intro z
    simp only [lnsF]
    by_cases hz : z = []
    · rw [if_pos hz]; simp
    · rw [if_neg hz]
      have hp := List.length_pos_iff.2 hz
      by_cases hx : (10 : UInt8) ∈ z
      · rw [if_pos hx]
        have h1 := ih (z.drop (z.idxOf 10 + 1))
        have h2 := List.idxOf_lt_length_of_mem hx
        rw [List.length_drop] at h1
        simp only [List.length_cons]
        omega
      · rw [if_neg hx]; simp; omega
theorem no10_ln {k : Nat} {p : P2} (h : okP p = true) : ∃ x, lnL k p = x ++ [10] ∧ (10 : UInt8) ∉ x ∧ x.length = 8 := by
  obtain ⟨⟨h0, h1⟩, h2, h3⟩ := (okP_iff p).1 h
  refine ⟨cwL k ++ [32, 88, UInt8.ofNat (48 + p.1.toNat), 32, 89, UInt8.ofNat (48 + p.2.toNat)], ?_, ?_, ?_⟩
  · rw [lnL_9 h]; simp
  · have e : ∀ k : Nat, k < 10 → (10 : UInt8) ≠ UInt8.ofNat (48 + k) := by decide
    intro hm
    rcases List.mem_append.1 hm with hm | hm
    · unfold cwL at hm
      split at hm <;> exact absurd hm (by decide)
    · simp only [List.mem_cons, List.not_mem_nil, or_false] at hm
      rcases hm with hm | hm | hm | hm | hm | hm
      · exact absurd hm (by decide)
      · exact absurd hm (by decide)
      · exact e _ (by omega) hm
      · exact absurd hm (by decide)
      · exact absurd hm (by decide)
      · exact e _ (by omega) hm
  · rw [List.length_append, cwL_len]; rfl
theorem turnsP_back : ∀ {t : List P2} {k : Nat}, (∀ p ∈ t, okP p = true) → turnsP k (lnsW (cdF k t)) = some t := by
  intro t
  induction t with
  | nil => intro k _; rfl
  | cons p r ih =>
    intro k h
    obtain ⟨x, e, hx, _⟩ := no10_ln (k := k) (h p List.mem_cons_self)
    simp only [cdF]
    have e2 : lnL k p ++ cdF (k + 1) r = x ++ 10 :: cdF (k + 1) r := by rw [e]; simp
    rw [e2, lnsW_word hx, ← e]
    simp only [turnsP]
    rw [lineP_back (h p List.mem_cons_self), ih (fun q hq => h q (List.mem_cons_of_mem _ hq))]
    rfl
theorem cut_first' {z : List UInt8} (h : (10 : UInt8) ∈ z) : ∃ x r, z = x ++ 10 :: r ∧ (10 : UInt8) ∉ x := by
  induction z with
  | nil => cases h
  | cons b z ih =>
    by_cases hb : b = 10
    · exact ⟨[], z, by rw [hb]; rfl, by simp⟩
    · obtain ⟨x, r, e, hx⟩ := ih (by rcases List.mem_cons.1 h with e | e; exact absurd e.symm hb; exact e)
      exact ⟨b :: x, r, by rw [e]; rfl, by simp only [List.mem_cons, not_or]; exact ⟨fun e => hb e.symm, hx⟩⟩
theorem turnsP_only : ∀ (n : Nat) {z : List UInt8} {k : Nat} {t : List P2}, z.length ≤ n → turnsP k (lnsW z) = some t → (∀ p ∈ t, okP p = true) ∧ z = cdF k t := by
  intro n
  induction n with
  | zero =>
    intro z k t hz h
    obtain rfl := List.eq_nil_of_length_eq_zero (Nat.le_zero.1 hz)
    rw [lnsW_nil] at h
    cases h
    exact ⟨fun p hp => (by cases hp), rfl⟩
  | succ n ih =>
    intro z k t hz h
    by_cases hm : (10 : UInt8) ∈ z
    · obtain ⟨x, r, rfl, hx⟩ : ∃ x r, z = x ++ 10 :: r ∧ (10 : UInt8) ∉ x := cut_first' hm
      rw [lnsW_word hx] at h
      simp only [turnsP] at h
      cases hy : lineP k (x ++ [10]) with
      | none => rw [hy] at h; cases h
      | some p =>
        rw [hy] at h
        simp only [Option.map_eq_some_iff] at h
        obtain ⟨q, hq, rfl⟩ := h
        obtain ⟨h1, h2⟩ := lineP_only hy
        obtain ⟨h3, h4⟩ := ih (by simp only [List.length_append, List.length_cons] at hz; omega) hq
        refine ⟨fun y hy => ?_, ?_⟩
        · rcases List.mem_cons.1 hy with rfl | hy
          · exact h1
          · exact h3 y hy
        · simp only [cdF]
          rw [← h2, ← h4]; simp
    · by_cases e : z = []
      · subst e
        rw [lnsW_nil] at h
        cases h
        exact ⟨fun p hp => (by cases hp), rfl⟩
      · rw [lnsW_free hm e] at h
        simp only [turnsP] at h
        cases hy : lineP k z with
        | none => rw [hy] at h; cases h
        | some p =>
          obtain ⟨h1, h2⟩ := lineP_only hy
          obtain ⟨x, e3, _, _⟩ := no10_ln (k := k) h1
          exact absurd (by rw [h2, e3]; simp) hm
/-- The path of a text. -/
def readC (z : List UInt8) : Option (List P2) :=
  if z.length ≤ 4000 then match turnsP 0 (lnsW z) with
    | none => none
    | some t => if stayV t = true ∧ turnsV (stayR t) = t then some (stayR t) else none
  else none
theorem readC_back {l : List P2} (h : pathP l = true) : readC (cdL (turnsL l)) = some l := by
  have hok := turns_okP h
  have hlen := cdL_len hok
  have h1 := turnsL_le l
  have h2 := (pathP_parts h).1.2
  obtain ⟨s1, s2⟩ := stayV_turns h
  have s3 : stayR (turnsL l) = l := by unfold stayR; rw [s1, if_pos rfl, s2]
  have s4 : turnsV l = turnsL l := by unfold turnsV; rw [h, if_pos rfl]
  unfold readC
  rw [if_pos (by omega)]
  have := turnsP_back (k := 0) hok
  unfold cdL
  rw [this]
  simp only
  rw [if_pos ⟨s1, by rw [s3, s4]⟩, s3]
theorem readC_only {z : List UInt8} {l : List P2} (h : readC z = some l) : pathP l = true ∧ cdL (turnsL l) = z := by
  unfold readC at h
  split at h
  · split at h
    · cases h
    · rename_i t ht
      split at h
      · rename_i hc
        cases h
        obtain ⟨h1, h2⟩ := turnsP_only z.length (Nat.le_refl _) ht
        have s1 : stayR t = stayL t := by unfold stayR; rw [hc.1, if_pos rfl]
        have hp : pathP (stayR t) = true := by rw [s1]; exact stay_path hc.1
        refine ⟨hp, ?_⟩
        have s4 : turnsV (stayR t) = turnsL (stayR t) := by unfold turnsV; rw [hp, if_pos rfl]
        rw [← s4, hc.2]
        exact h2.symm
      · cases h
  · cases h
end Go.Proofs.YtfdnadiliedikaaDoor
