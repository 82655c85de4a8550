/-
  OUR OWN TEXT. The texts of fractions: two ok fractions have one text just if they are one; a text has a stroke just if the fraction is not whole. Plain reasoning on lists of bytes.
-/
import Derived.Test.YtebjdfpfbcbhnaaDoorText
import Derived.Lib.SmallJoins
namespace Go.Proofs.YtebjdfpfbcbhnaaDoor

def val (l : List UInt8) : Nat := l.foldl (fun a c => a * 10 + (c.toNat - 48)) 0
theorem val_snoc (l : List UInt8) (c : UInt8) : val (l ++ [c]) = val l * 10 + (c.toNat - 48) := by simp [val]
theorem digit_nat (k : Nat) (h : k < 10) : (UInt8.ofNat (48 + k)).toNat = 48 + k := by
  rw [UInt8.toNat_ofNat']; exact Nat.mod_eq_of_lt (by omega)
theorem val_dec (k : Nat) : ∀ u, u ≤ k → val (Lib.decDigits u) = u := by
  induction k with
  | zero => intro u hu; rw [dec_lt u (by omega), ← List.nil_append [_], val_snoc, digit_nat u (by omega)]; simp [val]
  | succ k ih =>
    intro u hu
    by_cases h : u < 10
    · rw [dec_lt u h, ← List.nil_append [_], val_snoc, digit_nat u h]; simp [val]
    · rw [dec_ge u h, val_snoc, ih (u / 10) (by omega), digit_nat (u % 10) (by omega)]; omega
theorem dec_inj {u v : Nat} (h : Lib.decDigits u = Lib.decDigits v) : u = v := by
  have := val_dec u u (Nat.le_refl _)
  rw [h, val_dec v v (Nat.le_refl _)] at this
  exact this.symm
theorem no_stroke (k : Nat) : ∀ u, u ≤ k → ∀ c ∈ Lib.decDigits u, c ≠ 47 := by
  have hd : ∀ j, j < 10 → UInt8.ofNat (48 + j) ≠ 47 := by
    intro j hj e
    have := congrArg UInt8.toNat e
    rw [digit_nat j hj] at this
    simp at this
    omega
  induction k with
  | zero => intro u hu c hc; rw [dec_lt u (by omega)] at hc; rw [List.mem_singleton.1 hc]; exact hd u (by omega)
  | succ k ih =>
    intro u hu c hc
    by_cases h : u < 10
    · rw [dec_lt u h] at hc; rw [List.mem_singleton.1 hc]; exact hd u h
    · rw [dec_ge u h] at hc
      rcases List.mem_append.1 hc with h1 | h1
      · exact ih (u / 10) (by omega) c h1
      · rw [List.mem_singleton.1 h1]; exact hd (u % 10) (by omega)
theorem any_dec (u : Nat) : (Lib.decDigits u).any (· == 47) = false := by
  rw [List.any_eq_false]
  intro c hc
  simpa using no_stroke u u (Nat.le_refl _) c hc
theorem split47 (A : List UInt8) : ∀ (B C D : List UInt8), (∀ c ∈ A, c ≠ 47) → (∀ c ∈ B, c ≠ 47) → A ++ 47 :: C = B ++ 47 :: D → A = B ∧ C = D := by
  induction A with
  | nil =>
    intro B C D _ hB h
    cases B with
    | nil => simp at h; exact ⟨rfl, h⟩
    | cons x r => simp at h; exact absurd h.1.symm (hB x (by simp))
  | cons y A ih =>
    intro B C D hA hB h
    cases B with
    | nil => simp at h; exact absurd h.1 (hA y (by simp))
    | cons x r =>
      simp only [List.cons_append, List.cons.injEq] at h
      obtain ⟨e1, e2⟩ := ih r C D (fun c hc => hA c (List.mem_cons_of_mem _ hc)) (fun c hc => hB c (List.mem_cons_of_mem _ hc)) h.2
      exact ⟨by rw [h.1, e1], e2⟩
theorem textL_bad (n d : Int) (h : okB n d = false) : (textV n d).data.toList = [] := by unfold textV; rw [h]; rfl
theorem textL_one (n d : Int) (h : okB n d = true) (hd : d = 1) : (textV n d).data.toList = Lib.decDigits n.toNat := by unfold textV; rw [h]; simp [hd]
theorem textL_two (n d : Int) (h : okB n d = true) (hd : d ≠ 1) : (textV n d).data.toList = Lib.decDigits n.toNat ++ 47 :: Lib.decDigits d.toNat := by
  unfold textV; rw [h]
  simp only [if_true, if_neg hd]
  rw [Joins.data_append, Joins.data_append]
  simp
/-- The texts of two ok fractions. -/
theorem text_inj (n d m b : Int) (h1 : okB n d = true) (h2 : okB m b = true) (h : (textV n d).data.toList = (textV m b).data.toList) : n = m ∧ d = b := by
  have k1 := (okB_iff n d).1 h1
  have k2 := (okB_iff m b).1 h2
  by_cases hd : d = 1
  · rw [textL_one n d h1 hd] at h
    by_cases hb : b = 1
    · rw [textL_one m b h2 hb] at h
      have := dec_inj h
      omega
    · rw [textL_two m b h2 hb] at h
      exact absurd rfl (no_stroke n.toNat n.toNat (Nat.le_refl _) 47 (by rw [h]; simp))
  · rw [textL_two n d h1 hd] at h
    by_cases hb : b = 1
    · rw [textL_one m b h2 hb] at h
      exact absurd rfl (no_stroke m.toNat m.toNat (Nat.le_refl _) 47 (by rw [← h]; simp))
    · rw [textL_two m b h2 hb] at h
      obtain ⟨e1, e2⟩ := split47 _ _ _ _ (no_stroke _ _ (Nat.le_refl _)) (no_stroke _ _ (Nat.le_refl _)) h
      have := dec_inj e1
      have := dec_inj e2
      omega
theorem text_stroke (n d : Int) (h : okB n d = true) : (textV n d).data.toList.any (· == 47) = (d != 1) := by
  by_cases hd : d = 1
  · rw [textL_one n d h hd, any_dec]; simp [hd]
  · rw [textL_two n d h hd, List.any_append, any_dec]; simp [hd]
theorem text_ok (n d : Int) (h : (textV n d).toList.isEmpty = false) : okB n d = true := by
  cases hk : okB n d
  · rw [ByteArray.toList_eq, textL_bad n d hk] at h
    simp at h
  · rfl
/-- What the law needs of two texts that are not empty. -/
theorem text_cases (n d m b : Int) (h1 : (textV n d).toList.isEmpty = false) (h2 : (textV m b).toList.isEmpty = false) :
    (n = m ∧ d = b) ∨ ((n == m) = false ∧ ((textV n d).toList == (textV m b).toList) = false) ∨ (n = m ∧ (d == b) = false ∧ ((textV n d).toList == (textV m b).toList) = false) := by
  have k1 := text_ok n d h1
  have k2 := text_ok m b h2
  have hi := text_inj n d m b k1 k2
  rw [← ByteArray.toList_eq, ← ByteArray.toList_eq] at hi
  by_cases e1 : n = m
  · by_cases e2 : d = b
    · exact .inl ⟨e1, e2⟩
    · exact .inr (.inr ⟨e1, by simpa using e2, by simpa using fun h => e2 (hi h).2⟩)
  · exact .inr (.inl ⟨by simpa using e1, by simpa using fun h => e1 (hi h).1⟩)
end Go.Proofs.YtebjdfpfbcbhnaaDoor
