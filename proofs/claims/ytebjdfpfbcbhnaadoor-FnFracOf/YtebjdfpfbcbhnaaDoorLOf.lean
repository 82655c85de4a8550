/-
  OUR OWN TEXT. The law FnFracOf, walked: whatever bytes come in, it answers true and writes nothing that was there.
-/
import Derived.Test.YtebjdfpfbcbhnaaDoorLOrder
namespace Go.Proofs.YtebjdfpfbcbhnaaDoor
open Go.RowKit

theorem G_mul (n d k : Int) (hn : 0 ≤ n) (hd : 0 ≤ d) (hk : 0 ≤ k) : G (n * k) (d * k) = G n d * k := by
  obtain ⟨N, rfl⟩ := Int.eq_ofNat_of_zero_le hn
  obtain ⟨D, rfl⟩ := Int.eq_ofNat_of_zero_le hd
  obtain ⟨K, rfl⟩ := Int.eq_ofNat_of_zero_le hk
  rw [← Int.natCast_mul, ← Int.natCast_mul, G_nat, G_nat, Nat.gcd_mul_right]
  simp
theorem G_div (n d : Int) (hn : 0 ≤ n) (hd : 1 ≤ d) : G (n / G n d) (d / G n d) = 1 := by
  have hg := G_pos n d hd
  obtain ⟨x, hx⟩ := G_dvd_left n d hn
  obtain ⟨y, hy⟩ := G_dvd_right n d (by omega)
  have ex : n / G n d = x := Int.ediv_eq_of_eq_mul_right (by omega) hx
  have ey : d / G n d = y := Int.ediv_eq_of_eq_mul_right (by omega) hy
  have hx0 : 0 ≤ x := by rw [← ex]; exact Int.ediv_nonneg hn (by omega)
  have hy0 : 0 ≤ y := by rw [← ey]; exact Int.ediv_nonneg (by omega) (by omega)
  have e := G_mul x y (G n d) hx0 hy0 (by omega)
  rw [Int.mul_comm x, Int.mul_comm y, ← hx, ← hy] at e
  rw [ex, ey]
  have h1 : G x y * G n d = 1 * G n d := by omega
  exact Int.eq_of_mul_eq_mul_right (by omega) h1
/-- What FracOf answers is ok, and what it is of. -/
theorem of_good (n d : Int) (h : inB n d = true) : okB (ofN n d) (ofD n d) = true ∧ ofN n d * d = n * ofD n d ∧ 0 ≤ ofN n d ∧ ofN n d ≤ n ∧ 1 ≤ ofD n d ∧ ofD n d ≤ d := by
  have h' := (inB_iff n d).1 h
  have hg := G_pos n d h'.2.2.1
  unfold ofN ofD
  rw [h]
  simp only [if_true]
  obtain ⟨x, hx⟩ := G_dvd_left n d h'.1
  obtain ⟨y, hy⟩ := G_dvd_right n d (by omega)
  have ex : n / G n d = x := Int.ediv_eq_of_eq_mul_right (by omega) hx
  have ey : d / G n d = y := Int.ediv_eq_of_eq_mul_right (by omega) hy
  have a1 : 0 ≤ n / G n d := Int.ediv_nonneg h'.1 (by omega)
  have a2 : n / G n d ≤ n := Int.ediv_le_self _ h'.1
  have a3 : 0 ≤ d / G n d := Int.ediv_nonneg (by omega) (by omega)
  have a4 : d / G n d ≤ d := Int.ediv_le_self _ (by omega)
  have a5 : 1 ≤ d / G n d := by
    rcases Int.lt_or_le 0 (d / G n d) with h0 | h0
    · omega
    · have : d / G n d = 0 := by omega
      rw [ey] at this
      rw [this] at hy
      omega
  refine ⟨(okB_iff _ _).2 ⟨a1, by omega, a5, by omega, G_div n d h'.1 h'.2.2.1⟩, ?_, a1, a2, a5, a4⟩
  rw [ex, ey]
  have e1 : x * d = x * (G n d * y) := by rw [← hy]
  have e2 : x * (G n d * y) = (G n d * x) * y := by rw [← Int.mul_assoc, Int.mul_comm x]
  rw [e1, e2, ← hx]
theorem of_times (n d k : Int) (h : inB n d = true) (hk : 1 ≤ k) (h2 : inB (n * k) (d * k) = true) : ofN (n * k) (d * k) = ofN n d ∧ ofD (n * k) (d * k) = ofD n d := by
  have h' := (inB_iff n d).1 h
  have hg := G_pos n d h'.2.2.1
  unfold ofN ofD
  rw [h, h2]
  simp only [if_true]
  rw [G_mul n d k h'.1 (by omega) (by omega)]
  exact ⟨Int.mul_ediv_mul_of_pos_left _ _ (by omega), Int.mul_ediv_mul_of_pos_left _ _ (by omega)⟩

theorem of_long (w : World) (a0 : Option Addr) (len0 cap0 : Nat) (a1 : Option Addr) (len1 cap1 : Nat) (h : 1048576 < len0 ∨ 1048576 < len1) :
    Calls Tryd.prog 3 #[.slice a0 len0 cap0, .slice a1 len1 cap1] w fun e w' => e = .returned (.bool true) ∧ Below w.heap.size w w' := by
  by_cases h0 : 1048576 < len0
  · go_enter Tryd.func3, Tryd.ntmps3
    go_wp2
    go_ret
    exact ⟨rfl, bw_refl _⟩
  · have h1 : 1048576 < len1 := by omega
    clear h
    go_enter Tryd.func3, Tryd.ntmps3
    go_wp2
    go_ret
    exact ⟨rfl, bw_refl _⟩

set_option maxHeartbeats 2000000 in
theorem of_walk (w : World) (a0 : Option Addr) (len0 cap0 : Nat) (z0 : List Int) (r0 : IsRow .u8 w a0 len0 cap0 z0) (a1 : Option Addr) (len1 cap1 : Nat) (z1 : List Int) (_r1 : IsRow .u8 w a1 len1 cap1 z1) (a : Addr) (hs : Sent a w) :
    Calls Tryd.prog 3 #[.slice a0 len0 cap0, .slice a1 len1 cap1] w fun e w' => e = .returned (.bool true) ∧ Below w.heap.size w w' := by
  by_cases hl : 1048576 < len0 ∨ 1048576 < len1
  · exact of_long w a0 len0 cap0 a1 len1 cap1 hl
  have hl0 : len0 ≤ 1048576 := by omega
  have hl1 : len1 ≤ 1048576 := by omega
  clear hl _r1
  go_enter Tryd.func3, Tryd.ntmps3
  go_wp2_with fail
  refine (drawOf_any w _ r0 (bw_refl _)).mono ?_
  rintro e w1 ⟨n, d, rfl, hbd, b1⟩
  go_wp2_with fail
  refine (sOf_any n d _).mono ?_
  rintro e w2 ⟨rfl, b2⟩
  have B2 := bw_alloc (bw_trans b1 b2) (.cells #[.int .i64 (ofN n d), .int .i64 (ofD n d)] 26)
  have FW := heap_new w2 (.cells #[.int .i64 (ofN n d), .int .i64 (ofD n d)] 26)
  have LW : w2.heap.size < (w2.alloc (.cells #[.int .i64 (ofN n d), .int .i64 (ofD n d)] 26)).heap.size := by simp
  clear b1 b2
  go_wp2_with fail
  refine (fracOf_any n d a _ (hs.below B2)).mono ?_
  rintro e w3 ⟨rfl, J0⟩
  have J1 := bw_alloc J0 (.cells #[.int .i64 (ofN n d), .int .i64 (ofD n d)] 26)
  have B := bw_trans B2 J1
  have FW3 := (J1.block _ LW).trans FW
  have LW3 := Nat.lt_of_lt_of_le LW J1.size
  have FF := heap_new w3 (.cells #[.int .i64 (ofN n d), .int .i64 (ofD n d)] 26)
  have LF : w3.heap.size < (w3.alloc (.cells #[.int .i64 (ofN n d), .int .i64 (ofD n d)] 26)).heap.size := by simp
  have hz : w2.heap.size < w3.heap.size := by have := J0.size; simp only [size_new] at this; omega
  obtain ⟨x0, x1⟩ := box2 J0 LW FW
  have hne : (inB n d != inB n d) = false := by simp
  have heq : (inB n d == inB n d) = true := by simp
  clear B2 J0 J1 FW LW
  cases hin : inB n d
  · rw [hin] at hne heq
    go_wp2_with fail
    go_ret
    exact ⟨rfl, B⟩
  · rw [hin] at hne heq
    obtain ⟨ok1, cr, q1, q2, q3, q4⟩ := of_good n d hin
    have hin' := (inB_iff n d).1 hin
    have hK : 1 ≤ 1 + (len1 : Int) % 9 ∧ 1 + (len1 : Int) % 9 ≤ 9 := by omega
    have m1 : 0 ≤ n * (1 + (len1 : Int) % 9) := Int.mul_nonneg (by omega) (by omega)
    have m2 : n * (1 + (len1 : Int) % 9) ≤ 99999 * 9 := Int.mul_le_mul (by omega) (by omega) (by omega) (by omega)
    have m3 : d * 1 ≤ d * (1 + (len1 : Int) % 9) := Int.mul_le_mul_of_nonneg_left (by omega) (by omega)
    have m4 : d * (1 + (len1 : Int) % 9) ≤ 99999 * 9 := Int.mul_le_mul (by omega) (by omega) (by omega) (by omega)
    have p1 : 0 ≤ n * ofD n d := Int.mul_nonneg (by omega) (by omega)
    have p2 : n * ofD n d ≤ 99999 * 99999 := Int.mul_le_mul (by omega) (by omega) (by omega) (by omega)
    have CR : Hid (ofN n d * d = n * ofD n d) := cr
    have p3 : 0 ≤ ofN n d * d := by omega
    have p4 : ofN n d * d ≤ 9999800001 := by omega
    have crB : (ofN n d * d == n * ofD n d) = true := by simpa using cr
    clear cr
    go_wp2_with fail
    refine (fracOf_any _ _ a _ (hs.below B)).mono ?_
    rintro e w4 ⟨rfl, J⟩
    obtain ⟨f0, f1⟩ := box2 J LF FF
    have hz4 : w3.heap.size < w4.heap.size := by have := J.size; simp only [size_new] at this; omega
    cases hin2 : inB (n * (1 + (len1 : Int) % 9)) (d * (1 + (len1 : Int) % 9))
    · have e1 : ofN (n * (1 + (len1 : Int) % 9)) (d * (1 + (len1 : Int) % 9)) = 0 := by unfold ofN; rw [hin2]; rfl
      have e2 : ofD (n * (1 + (len1 : Int) % 9)) (d * (1 + (len1 : Int) % 9)) = 0 := by unfold ofD; rw [hin2]; rfl
      rw [e1, e2]
      have t := (inB_not _ _).1 hin2
      have t' : 99999 < n * (1 + (len1 : Int) % 9) ∨ (n * (1 + (len1 : Int) % 9) ≤ 99999 ∧ 99999 < d * (1 + (len1 : Int) % 9)) := by omega
      have hD : (0 == ofD n d) = false := by simp; omega
      clear e1 e2 t hin2 hin hin' hbd CR
      rcases t' with t1 | ⟨t1, t2⟩
      all_goals
        go_wp2_with fail
        refine (fracOk_yes _ _ a _ (hs.below (bw_trans B (bw_alloc J _))) ok1).mono ?_
        rintro e w5 ⟨rfl, b5⟩
        have J5 := bw_trans (bw_alloc J _) b5
        obtain ⟨g0, g1⟩ := box2 b5 (by simp) (heap_new _ _)
        clear f0 f1
        obtain ⟨f0, f1⟩ := box2 J5 LF FF
        clear b5 hz4 hz x0 x1 J
        go_wp2_with fail
        go_ret
        first | exact ⟨rfl, bw_trans B J5⟩ | exact ⟨ret_bool (by simp; omega), bw_trans B J5⟩
    · obtain ⟨e1, e2⟩ := of_times n d _ hin hK.1 hin2
      rw [e1, e2]
      have t := (inB_iff _ _).1 hin2
      have t1 := t.2.1
      have t2 := t.2.2.2
      clear e1 e2 t hin2 hin hin' hbd CR
      go_wp2_with fail
      refine (fracOk_yes _ _ a _ (hs.below (bw_trans B (bw_alloc J _))) ok1).mono ?_
      rintro e w5 ⟨rfl, b5⟩
      have J5 := bw_trans (bw_alloc J _) b5
      obtain ⟨g0, g1⟩ := box2 b5 (by simp) (heap_new _ _)
      clear f0 f1
      obtain ⟨f0, f1⟩ := box2 J5 LF FF
      clear b5 hz4 hz x0 x1 J
      go_wp2_with fail
      go_ret
      exact ⟨rfl, bw_trans B J5⟩
end Go.Proofs.YtebjdfpfbcbhnaaDoor
