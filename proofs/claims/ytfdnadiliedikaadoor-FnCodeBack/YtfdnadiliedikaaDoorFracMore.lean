/-
  OUR OWN TEXT. More arithmetic of fractions: one divided by another is ok and what it is of; ok fractions that are as great are the same. No program stands in it.
-/
import Derived.Test.YtfdnadiliedikaaDoorMath
namespace Go.Proofs.YtfdnadiliedikaaDoor

theorem G_mul (n d k : Int) (hn : 0 ≤ n) (hd : 0 ≤ d) (hk : 0 ≤ k) : G (n * k) (d * k) = G n d * k := by
  obtain ⟨N, rfl⟩ := Int.eq_ofNat_of_zero_le hn
  obtain ⟨D, rfl⟩ := Int.eq_ofNat_of_zero_le hd
  obtain ⟨K, rfl⟩ := Int.eq_ofNat_of_zero_le hk
  rw [← Int.natCast_mul, ← Int.natCast_mul, G_nat, G_nat, Nat.gcd_mul_right]
  simp
theorem G_div (n d : Int) (hn : 0 ≤ n) (hd : 1 ≤ d) : G (n / G n d) (d / G n d) = 1 := by
  have hg := G_pos n d hd
  obtain ⟨x, hx⟩ := G_dvd_left n d hn
  obtain ⟨y, hy⟩ := G_dvd_right n d (by omega)
  have ex : n / G n d = x := Int.ediv_eq_of_eq_mul_right (by omega) hx
  have ey : d / G n d = y := Int.ediv_eq_of_eq_mul_right (by omega) hy
  have hx0 : 0 ≤ x := by rw [← ex]; exact Int.ediv_nonneg hn (by omega)
  have hy0 : 0 ≤ y := by rw [← ey]; exact Int.ediv_nonneg (by omega) (by omega)
  have e := G_mul x y (G n d) hx0 hy0 (by omega)
  rw [Int.mul_comm x, Int.mul_comm y, ← hx, ← hy] at e
  rw [ex, ey]
  have h1 : G x y * G n d = 1 * G n d := by omega
  exact Int.eq_of_mul_eq_mul_right (by omega) h1
/-- What FracOf answers is ok, and what it is of. -/
theorem of_good (n d : Int) (h : inB n d = true) : okB (ofN n d) (ofD n d) = true ∧ ofN n d * d = n * ofD n d ∧ 0 ≤ ofN n d ∧ ofN n d ≤ n ∧ 1 ≤ ofD n d ∧ ofD n d ≤ d := by
  have h' := (inB_iff n d).1 h
  have hg := G_pos n d h'.2.2.1
  unfold ofN ofD
  rw [h]
  simp only [if_true]
  obtain ⟨x, hx⟩ := G_dvd_left n d h'.1
  obtain ⟨y, hy⟩ := G_dvd_right n d (by omega)
  have ex : n / G n d = x := Int.ediv_eq_of_eq_mul_right (by omega) hx
  have ey : d / G n d = y := Int.ediv_eq_of_eq_mul_right (by omega) hy
  have a1 : 0 ≤ n / G n d := Int.ediv_nonneg h'.1 (by omega)
  have a2 : n / G n d ≤ n := Int.ediv_le_self _ h'.1
  have a3 : 0 ≤ d / G n d := Int.ediv_nonneg (by omega) (by omega)
  have a4 : d / G n d ≤ d := Int.ediv_le_self _ (by omega)
  have a5 : 1 ≤ d / G n d := by
    rcases Int.lt_or_le 0 (d / G n d) with h0 | h0
    · omega
    · have : d / G n d = 0 := by omega
      rw [ey] at this
      rw [this] at hy
      omega
  refine ⟨(okB_iff _ _).2 ⟨a1, by omega, a5, by omega, G_div n d h'.1 h'.2.2.1⟩, ?_, a1, a2, a5, a4⟩
  rw [ex, ey]
  have e1 : x * d = x * (G n d * y) := by rw [← hy]
  have e2 : x * (G n d * y) = (G n d * x) * y := by rw [← Int.mul_assoc, Int.mul_comm x]
  rw [e1, e2, ← hx]
theorem of_times (n d k : Int) (h : inB n d = true) (hk : 1 ≤ k) (h2 : inB (n * k) (d * k) = true) : ofN (n * k) (d * k) = ofN n d ∧ ofD (n * k) (d * k) = ofD n d := by
  have h' := (inB_iff n d).1 h
  have hg := G_pos n d h'.2.2.1
  unfold ofN ofD
  rw [h, h2]
  simp only [if_true]
  rw [G_mul n d k h'.1 (by omega) (by omega)]
  exact ⟨Int.mul_ediv_mul_of_pos_left _ _ (by omega), Int.mul_ediv_mul_of_pos_left _ _ (by omega)⟩

theorem G_one (n : Int) : G n 1 = 1 := by unfold G; simp
theorem okB_one (n : Int) (h : 0 ≤ n) (h2 : n ≤ 99999) : okB n 1 = true := (okB_iff n 1).2 ⟨h, h2, by omega, by omega, G_one n⟩
/-- Fractions that are as great are the same. -/
theorem ok_same {n d m b : Int} (h : okB n d = true) (h' : okB m b = true) (e : n * b = m * d) : n = m ∧ d = b := by
  have k := (okB_iff n d).1 h
  have k' := (okB_iff m b).1 h'
  obtain ⟨N, rfl⟩ := Int.eq_ofNat_of_zero_le k.1
  obtain ⟨D, rfl⟩ := Int.eq_ofNat_of_zero_le (show 0 ≤ d by omega)
  obtain ⟨M, rfl⟩ := Int.eq_ofNat_of_zero_le k'.1
  obtain ⟨B, rfl⟩ := Int.eq_ofNat_of_zero_le (show 0 ≤ b by omega)
  have g1 : Nat.gcd N D = 1 := by have := k.2.2.2.2; unfold G at this; simp at this; omega
  have g2 : Nat.gcd M B = 1 := by have := k'.2.2.2.2; unfold G at this; simp at this; omega
  have e' : N * B = M * D := by exact_mod_cast e
  have d1 : D ∣ B := by
    have h1 : D ∣ N * B := ⟨M, by rw [e', Nat.mul_comm]⟩
    exact Nat.Coprime.dvd_of_dvd_mul_left (Nat.Coprime.symm g1) h1
  have d2 : B ∣ D := by
    have h1 : B ∣ M * D := ⟨N, by rw [← e', Nat.mul_comm]⟩
    exact Nat.Coprime.dvd_of_dvd_mul_left (Nat.Coprime.symm g2) h1
  have eD : D = B := Nat.dvd_antisymm d1 d2
  subst eD
  have : N = M := Nat.eq_of_mul_eq_mul_right (show 0 < D by omega) e'
  exact ⟨by rw [this], rfl⟩
end Go.Proofs.YtfdnadiliedikaaDoor
