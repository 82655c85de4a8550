/-
  OUR OWN TEXT. The law FnFracThree, walked: whatever bytes come in, it answers true and writes nothing that was there.
-/
import Derived.Test.YtebjdfpfbcbhnaaDoorLOrder
namespace Go.Proofs.YtebjdfpfbcbhnaaDoor
open Go.RowKit

theorem cmpI_le (x y : Int) : cmpI x y ≤ 0 ↔ x ≤ y := by
  unfold cmpI
  by_cases h1 : x < y
  · rw [if_pos h1]; constructor <;> intro _ <;> omega
  · rw [if_neg h1]
    by_cases h2 : y < x
    · rw [if_pos h2]; constructor <;> intro _ <;> omega
    · rw [if_neg h2]; constructor <;> intro _ <;> omega
theorem cmpI_ge (x y : Int) : 0 ≤ cmpI x y ↔ y ≤ x := by
  have := cmpI_le y x
  rw [cmpI_neg] at this
  omega
/-- One is not more than the second, and that not more than the third. -/
theorem three_le (n d m b p q : Int) (hb : 1 ≤ b) (hd : 0 ≤ d) (hq : 0 ≤ q) (h1 : n * b ≤ m * d) (h2 : m * q ≤ p * b) : n * q ≤ p * d := by
  have e1 : (n * b) * q ≤ (m * d) * q := Int.mul_le_mul_of_nonneg_right h1 hq
  have e2 : (m * q) * d ≤ (p * b) * d := Int.mul_le_mul_of_nonneg_right h2 hd
  have e3 : (n * q) * b ≤ (p * d) * b := by
    have a1 : (n * q) * b = (n * b) * q := by rw [Int.mul_assoc, Int.mul_comm q b, ← Int.mul_assoc]
    have a2 : (m * d) * q = (m * q) * d := by rw [Int.mul_assoc, Int.mul_comm d q, ← Int.mul_assoc]
    have a3 : (p * b) * d = (p * d) * b := by rw [Int.mul_assoc, Int.mul_comm b d, ← Int.mul_assoc]
    omega
  exact Int.le_of_mul_le_mul_right e3 (by omega)
theorem cmpV_ok {n d m b : Int} (h1 : okB n d = true) (h2 : okB m b = true) : cmpV n d m b = cmpI (n * b) (m * d) := by unfold cmpV; rw [h1, h2]; rfl
theorem three (n d m b p q : Int) (h1 : okB n d = true) (h2 : okB m b = true) (h3 : okB p q = true) :
    (cmpV n d m b ≤ 0 → cmpV m b p q ≤ 0 → cmpV n d p q ≤ 0) ∧ (0 ≤ cmpV n d m b → 0 ≤ cmpV m b p q → 0 ≤ cmpV n d p q) := by
  rw [cmpV_ok h1 h2, cmpV_ok h2 h3, cmpV_ok h1 h3]
  rw [okB_iff] at h1 h2 h3
  constructor
  · intro a1 a2
    rw [cmpI_le] at *
    exact three_le n d m b p q (by omega) (by omega) (by omega) a1 a2
  · intro a1 a2
    rw [cmpI_ge] at *
    exact three_le p q m b n d (by omega) (by omega) (by omega) a2 a1

theorem three_long (w : World) (a0 : Option Addr) (len0 cap0 : Nat) (a1 : Option Addr) (len1 cap1 : Nat) (h : 1048576 < len0 ∨ 1048576 < len1) :
    Calls Tryd.prog 5 #[.slice a0 len0 cap0, .slice a1 len1 cap1] w fun e w' => e = .returned (.bool true) ∧ Below w.heap.size w w' := by
  by_cases h0 : 1048576 < len0
  · go_enter Tryd.func5, Tryd.ntmps5
    go_wp2
    go_ret
    exact ⟨rfl, bw_refl _⟩
  · have h1 : 1048576 < len1 := by omega
    clear h
    go_enter Tryd.func5, Tryd.ntmps5
    go_wp2
    go_ret
    exact ⟨rfl, bw_refl _⟩

set_option maxHeartbeats 2000000 in
theorem three_walk (w : World) (a0 : Option Addr) (len0 cap0 : Nat) (z0 : List Int) (r0 : IsRow .u8 w a0 len0 cap0 z0) (a1 : Option Addr) (len1 cap1 : Nat) (z1 : List Int) (r1 : IsRow .u8 w a1 len1 cap1 z1) (a : Addr) (hs : Sent a w) :
    Calls Tryd.prog 5 #[.slice a0 len0 cap0, .slice a1 len1 cap1] w fun e w' => e = .returned (.bool true) ∧ Below w.heap.size w w' := by
  by_cases hl : 1048576 < len0 ∨ 1048576 < len1
  · exact three_long w a0 len0 cap0 a1 len1 cap1 hl
  have hl0 : len0 ≤ 1048576 := by omega
  have hl1 : len1 ≤ 1048576 := by omega
  clear hl
  go_enter Tryd.func5, Tryd.ntmps5
  go_wp2_with fail
  refine (drawCmp_any w _ r0 (bw_refl _)).mono ?_
  rintro e w1 ⟨n, d, m, b, rfl, hf1, hf2, b1⟩
  have B1 := bw_alloc (bw_alloc b1 (.cells #[.int .i64 n, .int .i64 d] 26)) (.cells #[.int .i64 m, .int .i64 b] 26)
  have FA1 := (heap_old (w1.alloc (.cells #[.int .i64 n, .int .i64 d] 26)) (.cells #[.int .i64 m, .int .i64 b] 26) (k := w1.heap.size) (by simp)).trans (heap_new w1 (.cells #[.int .i64 n, .int .i64 d] 26))
  have FB1 := heap_new1 w1 (.cells #[.int .i64 n, .int .i64 d] 26) (.cells #[.int .i64 m, .int .i64 b] 26)
  have LA : w1.heap.size < ((w1.alloc (.cells #[.int .i64 n, .int .i64 d] 26)).alloc (.cells #[.int .i64 m, .int .i64 b] 26)).heap.size := by simp only [size_new]; omega
  have LB : w1.heap.size + 1 < ((w1.alloc (.cells #[.int .i64 n, .int .i64 d] 26)).alloc (.cells #[.int .i64 m, .int .i64 b] 26)).heap.size := by simp only [size_new]; omega
  clear b1 hf1 hf2
  go_wp2_with fail
  refine (drawCmp_any w _ r1 B1).mono ?_
  rintro e w2 ⟨p, q, s, t, rfl, _, _, J0⟩
  have B := bw_alloc (bw_alloc (bw_trans B1 J0) (.cells #[.int .i64 p, .int .i64 q] 26)) (.cells #[.int .i64 s, .int .i64 t] 26)
  have J1 := bw_alloc (bw_alloc J0 (.cells #[.int .i64 p, .int .i64 q] 26)) (.cells #[.int .i64 s, .int .i64 t] 26)
  have FA2 := (J1.block _ LA).trans FA1
  have FB2 := (J1.block _ LB).trans FB1
  have FC2 := (heap_old (w2.alloc (.cells #[.int .i64 p, .int .i64 q] 26)) (.cells #[.int .i64 s, .int .i64 t] 26) (k := w2.heap.size) (by simp)).trans (heap_new w2 (.cells #[.int .i64 p, .int .i64 q] 26))
  have LA2 := Nat.lt_of_lt_of_le LA J1.size
  have LB2 := Nat.lt_of_lt_of_le LB J1.size
  have LC2 : w2.heap.size < ((w2.alloc (.cells #[.int .i64 p, .int .i64 q] 26)).alloc (.cells #[.int .i64 s, .int .i64 t] 26)).heap.size := by simp only [size_new]; omega
  have hz1 : w1.heap.size < w2.heap.size := by have := J0.size; simp only [size_new] at this; omega
  have hz2 : w1.heap.size + 1 < w2.heap.size := by have := J0.size; simp only [size_new] at this; omega
  obtain ⟨f0, f1⟩ := box2 (J0) LA FA1
  obtain ⟨g0, g1⟩ := box2 (J0) LB FB1
  clear B1 J0 J1 FA1 FB1 LA LB
  go_wp2_with fail
  refine (fracCmp_any n d m b a _ (hs.below B)).mono ?_
  rintro e w3 ⟨rfl, J⟩
  clear f0 f1 g0 g1 hz1 hz2
  obtain ⟨f0, f1⟩ := box2 J LA2 FA2
  obtain ⟨g0, g1⟩ := box2 J LB2 FB2
  go_wp2_with fail
  refine (sCmp_any n d m b _).mono ?_
  rintro e w4 ⟨rfl, b4⟩
  replace J := bw_trans J b4
  clear b4 f0 f1 g0 g1
  obtain ⟨f0, f1⟩ := box2 J LA2 FA2
  obtain ⟨g0, g1⟩ := box2 J LB2 FB2
  obtain ⟨c0, c1⟩ := box2 J LC2 FC2
  have hne : (cmpV n d m b != cmpV n d m b) = false := by simp
  have heq : (cmpV n d m b == cmpV n d m b) = true := by simp
  by_cases hok : okB n d = true ∧ okB m b = true
  · obtain ⟨k1, k2⟩ := hok
    have hb1 := cmpI_bd (n * b) (m * d)
    rw [← cmpV_ok k1 k2] at hb1
    have h2 : (cmpV n d m b == 2) = false := by simp; omega
    go_wp2_with fail
    cases k3 : okB p q
    · refine (sOk_no p q _ k3).mono ?_
      rintro e w5 ⟨rfl, b5⟩
      replace J := bw_trans J b5
      clear b5 f0 f1 g0 g1 c0 c1
      obtain ⟨f0, f1⟩ := box2 J LA2 FA2
      obtain ⟨g0, g1⟩ := box2 J LB2 FB2
      go_wp2_with fail
      refine (sCmp_any n d m b _).mono ?_
      rintro e w6 ⟨rfl, b6⟩
      replace J := bw_trans J b6
      go_wp2_with fail
      go_ret
      exact ⟨rfl, bw_trans B J⟩
    · refine (sOk_yes p q _ k3).mono ?_
      rintro e w5 ⟨rfl, b5⟩
      replace J := bw_trans J b5
      clear b5 f0 f1 g0 g1 c0 c1
      obtain ⟨f0, f1⟩ := box2 J LA2 FA2
      obtain ⟨g0, g1⟩ := box2 J LB2 FB2
      obtain ⟨c0, c1⟩ := box2 J LC2 FC2
      obtain ⟨t1, t2⟩ := three n d m b p q k1 k2 k3
      go_wp2_with fail
      refine (fracCmp_any m b p q a _ (hs.below (bw_trans B J))).mono ?_
      rintro e w6 ⟨rfl, b6⟩
      replace J := bw_trans J b6
      clear b6 f0 f1 g0 g1 c0 c1
      obtain ⟨f0, f1⟩ := box2 J LA2 FA2
      obtain ⟨c0, c1⟩ := box2 J LC2 FC2
      go_wp2_with fail
      refine (fracCmp_any n d p q a _ (hs.below (bw_trans B J))).mono ?_
      rintro e w7 ⟨rfl, b7⟩
      replace J := bw_trans J b7
      clear b7 f0 f1 c0 c1 hne heq h2 k1 k2 k3
      have tt : (0 < cmpV n d m b ∨ (¬ 0 < cmpV n d m b ∧ 0 < cmpV m b p q) ∨ (¬ 0 < cmpV n d m b ∧ ¬ 0 < cmpV m b p q ∧ cmpV n d p q ≤ 0)) := by omega
      have uu : (cmpV n d m b < 0 ∨ (¬ cmpV n d m b < 0 ∧ cmpV m b p q < 0) ∨ (¬ cmpV n d m b < 0 ∧ ¬ cmpV m b p q < 0 ∧ 0 ≤ cmpV n d p q)) := by omega
      clear t1 t2 hb1
      generalize cmpV n d m b = X at tt uu ⊢
      generalize cmpV m b p q = Y at tt uu ⊢
      generalize cmpV n d p q = Z at tt uu ⊢
      rcases tt with h1 | ⟨h1, h2⟩ | ⟨h1, h2, h3⟩
      all_goals rcases uu with g1 | ⟨g1, g2⟩ | ⟨g1, g2, g3⟩
      all_goals try (exfalso; omega)
      all_goals
        go_wp2_with fail
        go_ret
        exact ⟨rfl, bw_trans B J⟩
  · have ev : cmpV n d m b = 2 := by
      unfold cmpV
      rw [if_neg (by simpa using hok)]
    rw [ev] at hne ⊢
    go_wp2_with fail
    refine (sCmp_any n d m b _).mono ?_
    rw [ev]
    rintro e w5 ⟨rfl, b5⟩
    replace J := bw_trans J b5
    go_wp2_with fail
    go_ret
    exact ⟨rfl, bw_trans B J⟩
end Go.Proofs.YtebjdfpfbcbhnaaDoor
