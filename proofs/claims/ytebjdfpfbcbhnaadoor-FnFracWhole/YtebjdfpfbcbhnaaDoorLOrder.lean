/-
  OUR OWN TEXT. The law FnFracOrder, walked: whatever bytes come in, it answers true and writes nothing that was there.
-/
import Derived.Test.YtebjdfpfbcbhnaaDoorLBad
namespace Go.Proofs.YtebjdfpfbcbhnaaDoor
open Go.RowKit

theorem cmpI_neg (x y : Int) : cmpI y x = -cmpI x y := by
  unfold cmpI
  by_cases h1 : x < y
  · rw [if_neg (by omega), if_pos h1, if_pos h1]; rfl
  · by_cases h2 : y < x
    · rw [if_pos h2, if_neg h1, if_pos h2]
    · rw [if_neg h2, if_neg h1, if_neg h1, if_neg h2]; rfl
theorem cmpI_zero (x y : Int) : cmpI x y = 0 ↔ x = y := by
  unfold cmpI
  by_cases h1 : x < y
  · rw [if_pos h1]; constructor <;> intro h <;> omega
  · rw [if_neg h1]
    by_cases h2 : y < x
    · rw [if_pos h2]; constructor <;> intro h <;> omega
    · rw [if_neg h2]; constructor <;> intro _ <;> omega
theorem cmpI_bd (x y : Int) : -1 ≤ cmpI x y ∧ cmpI x y ≤ 1 := by
  unfold cmpI; split
  · omega
  · split <;> omega
/-- Two ok fractions that compare as the same are the same. -/
theorem ok_eq (n d m b : Int) (h1 : okB n d = true) (h2 : okB m b = true) (h : n * b = m * d) : n = m ∧ d = b := by
  rw [okB_iff] at h1 h2
  obtain ⟨N, rfl⟩ := Int.eq_ofNat_of_zero_le h1.1
  obtain ⟨M, rfl⟩ := Int.eq_ofNat_of_zero_le h2.1
  obtain ⟨D, rfl⟩ := Int.eq_ofNat_of_zero_le (show 0 ≤ d by omega)
  obtain ⟨B, rfl⟩ := Int.eq_ofNat_of_zero_le (show 0 ≤ b by omega)
  have g1 : Nat.gcd N D = 1 := by have := h1.2.2.2.2; rw [G_nat] at this; omega
  have g2 : Nat.gcd M B = 1 := by have := h2.2.2.2.2; rw [G_nat] at this; omega
  have hN : N * B = M * D := by exact_mod_cast h
  have d1 : D ∣ B := by
    have : D ∣ N * B := by rw [hN]; exact Nat.dvd_mul_left _ _
    exact (Nat.Coprime.symm g1).dvd_of_dvd_mul_left this
  have d2 : B ∣ D := by
    have : B ∣ M * D := by rw [← hN]; exact Nat.dvd_mul_left _ _
    exact (Nat.Coprime.symm g2).dvd_of_dvd_mul_left this
  have e : D = B := Nat.dvd_antisymm d1 d2
  subst e
  have hD : 0 < D := by omega
  exact ⟨by rw [Nat.eq_of_mul_eq_mul_right hD hN], rfl⟩
theorem ok_eq_iff (n d m b : Int) (h1 : okB n d = true) (h2 : okB m b = true) : cmpI (n * b) (m * d) = 0 ↔ (n = m ∧ d = b) := by
  rw [cmpI_zero]
  exact ⟨ok_eq n d m b h1 h2, fun ⟨e1, e2⟩ => by rw [e1, e2]⟩

set_option maxHeartbeats 1000000 in
theorem order_walk (w : World) (a0 : Option Addr) (len0 cap0 : Nat) (z0 : List Int) (r0 : IsRow .u8 w a0 len0 cap0 z0) (a : Addr) (hs : Sent a w) :
    Calls Tryd.prog 4 #[.slice a0 len0 cap0] w fun e w' => e = .returned (.bool true) ∧ Below w.heap.size w w' := by
  by_cases hl : 1048576 < len0
  · go_enter Tryd.func4, Tryd.ntmps4
    go_wp2
    go_ret
    exact ⟨rfl, bw_refl _⟩
  have hl0 : len0 ≤ 1048576 := by omega
  clear hl
  go_enter Tryd.func4, Tryd.ntmps4
  go_wp2_with fail
  refine (drawCmp_any w _ r0 (bw_refl _)).mono ?_
  rintro e w1 ⟨n, d, m, b, rfl, hf1, hf2, b1⟩
  have B := bw_alloc (bw_alloc b1 (.cells #[.int .i64 n, .int .i64 d] 26)) (.cells #[.int .i64 m, .int .i64 b] 26)
  have FA := (heap_old (w1.alloc (.cells #[.int .i64 n, .int .i64 d] 26)) (.cells #[.int .i64 m, .int .i64 b] 26) (k := w1.heap.size) (by simp)).trans (heap_new w1 (.cells #[.int .i64 n, .int .i64 d] 26))
  have FB := heap_new1 w1 (.cells #[.int .i64 n, .int .i64 d] 26) (.cells #[.int .i64 m, .int .i64 b] 26)
  have LA : w1.heap.size < ((w1.alloc (.cells #[.int .i64 n, .int .i64 d] 26)).alloc (.cells #[.int .i64 m, .int .i64 b] 26)).heap.size := by simp only [size_new]; omega
  have LB : w1.heap.size + 1 < ((w1.alloc (.cells #[.int .i64 n, .int .i64 d] 26)).alloc (.cells #[.int .i64 m, .int .i64 b] 26)).heap.size := by simp only [size_new]; omega
  clear b1
  go_wp2_with fail
  refine (fracCmp_any n d m b a _ (hs.below B)).mono ?_
  rintro e w2 ⟨rfl, J⟩
  obtain ⟨f0, f1⟩ := box2 J LA FA
  obtain ⟨g0, g1⟩ := box2 J LB FB
  go_wp2_with fail
  refine (sCmp_any n d m b _).mono ?_
  rintro e w3 ⟨rfl, b3⟩
  replace J := bw_trans J b3
  clear b3 f0 f1 g0 g1
  obtain ⟨f0, f1⟩ := box2 J LA FA
  obtain ⟨g0, g1⟩ := box2 J LB FB
  have hne : (cmpV n d m b != cmpV n d m b) = false := by simp
  by_cases hok : okB n d = true ∧ okB m b = true
  · obtain ⟨k1, k2⟩ := hok
    have ev : Hid (cmpV n d m b = cmpI (n * b) (m * d)) := by unfold cmpV; rw [k1, k2]; rfl
    have h2 : (cmpV n d m b == 2) = false := by
      have := cmpI_bd (n * b) (m * d); rw [← ev.out] at this; simp; omega
    have hb := cmpI_bd (n * b) (m * d)
    rw [← ev.out] at hb
    have ev' : Hid (cmpV m b n d = -cmpV n d m b) := by rw [ev.out, ← cmpI_neg]; unfold cmpV; rw [k1, k2]; rfl
    have hx : (cmpV m b n d == -cmpV n d m b) = true := by rw [ev'.out]; simp
    have h0 : Hid (cmpV n d n d = 0) := by unfold cmpV; rw [k1]; exact (cmpI_zero _ _).2 rfl
    have hz : (cmpV n d n d == 0) = true := by rw [h0.out]; rfl
    have hcase : (n = m ∧ d = b) ∨ ((n == m) = false ∧ (cmpV n d m b == 0) = false) ∨ (n = m ∧ (d == b) = false ∧ (cmpV n d m b == 0) = false) := by
      have hi := ok_eq_iff n d m b k1 k2
      rw [← ev.out] at hi
      by_cases e1 : n = m
      · by_cases e2 : d = b
        · exact .inl ⟨e1, e2⟩
        · exact .inr (.inr ⟨e1, by simpa using e2, by simp [hi, e2]⟩)
      · exact .inr (.inl ⟨by simpa using e1, by simp [hi, e1]⟩)
    clear k1 k2 hf1 hf2
    rcases hcase with ⟨rfl, rfl⟩ | ⟨hn, hq⟩ | ⟨rfl, hn, hq⟩
    · have e0 : cmpV n d n d = 0 := h0.out
      clear hx hz hne h2
      rw [e0]
      go_wp2_with fail
      refine (fracCmp_any _ _ _ _ a _ (hs.below (bw_trans B J))).mono ?_
      rintro e w4 ⟨rfl, b4⟩
      replace J := bw_trans J b4
      clear b4 f0 f1 g0 g1
      obtain ⟨f0, f1⟩ := box2 J LA FA
      obtain ⟨g0, g1⟩ := box2 J LB FB
      go_wp2_with fail
      refine (fracCmp_any _ _ _ _ a _ (hs.below (bw_trans B J))).mono ?_
      rintro e w5 ⟨rfl, b5⟩
      replace J := bw_trans J b5
      go_wp2_with fail
      go_ret
      exact ⟨rfl, bw_trans B J⟩
    all_goals
      go_wp2_with fail
      refine (fracCmp_any _ _ _ _ a _ (hs.below (bw_trans B J))).mono ?_
      rintro e w4 ⟨rfl, b4⟩
      replace J := bw_trans J b4
      clear b4 f0 f1 g0 g1
      obtain ⟨f0, f1⟩ := box2 J LA FA
      obtain ⟨g0, g1⟩ := box2 J LB FB
      go_wp2_with fail
      refine (fracCmp_any _ _ _ _ a _ (hs.below (bw_trans B J))).mono ?_
      rintro e w5 ⟨rfl, b5⟩
      replace J := bw_trans J b5
      go_wp2_with fail
      go_ret
      exact ⟨rfl, bw_trans B J⟩
  · have ev : cmpV n d m b = 2 := by
      unfold cmpV
      rw [if_neg (by simpa using hok)]
    rw [ev] at hne ⊢
    go_wp2_with fail
    refine (sCmp_any n d m b _).mono ?_
    rw [ev]
    rintro e w4 ⟨rfl, b4⟩
    replace J := bw_trans J b4
    go_wp2_with fail
    go_ret
    exact ⟨rfl, bw_trans B J⟩
end Go.Proofs.YtebjdfpfbcbhnaaDoor
