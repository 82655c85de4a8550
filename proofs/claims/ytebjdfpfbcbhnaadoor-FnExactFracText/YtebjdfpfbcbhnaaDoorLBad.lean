/-
  OUR OWN TEXT. The law FnFracBad, walked: whatever bytes come in, it answers true and writes nothing that was there.
-/
import Derived.Test.YtebjdfpfbcbhnaaDoorDraws
namespace Go.Proofs.YtebjdfpfbcbhnaaDoor
open Go.RowKit

theorem okB_times (n d k : Int) (h : okB n d = true) (hk : 2 ≤ k) : okB (n * k) (d * k) = false := by
  rw [okB_iff] at h
  rw [okB_not]
  rintro ⟨h1, h2, h3, h4, hg⟩
  have e : G (n * k) (d * k) = G n d * k := by
    obtain ⟨N, rfl⟩ := Int.eq_ofNat_of_zero_le h.1
    obtain ⟨D, rfl⟩ := Int.eq_ofNat_of_zero_le (show 0 ≤ d by omega)
    obtain ⟨K, rfl⟩ := Int.eq_ofNat_of_zero_le (show 0 ≤ k by omega)
    rw [← Int.natCast_mul, ← Int.natCast_mul, G_nat, G_nat, Nat.gcd_mul_right]
    simp
  rw [e, h.2.2.2.2] at hg
  omega
theorem okB_zero (n : Int) : okB n 0 = false := (okB_not n 0).2 (by omega)
theorem okB_neg (d : Int) : okB (-1) d = false := (okB_not (-1) d).2 (by omega)
theorem okB_24 : okB 2 4 = false := by decide

theorem box2 {W w : World} {b : Nat} {x y : Value} {t : TypeId} (J : Below W.heap.size W w) (hb : b < W.heap.size) (F : W.heap[b]? = some (.cells #[x, y] t (0, 0))) :
    w.cell? ⟨b, 0, none⟩ = some x ∧ w.cell? ⟨b, 1, none⟩ = some y :=
  ⟨(blk2 ((J.block b hb).trans F)).1, (blk2 ((J.block b hb).trans F)).2.1⟩

theorem bad_long (w : World) (a0 : Option Addr) (len0 cap0 : Nat) (a1 : Option Addr) (len1 cap1 : Nat) (h : 1048576 < len0 ∨ 1048576 < len1) :
    Calls Tryd.prog 8 #[.slice a0 len0 cap0, .slice a1 len1 cap1] w fun e w' => e = .returned (.bool true) ∧ Below w.heap.size w w' := by
  by_cases h0 : 1048576 < len0
  · go_enter Tryd.func8, Tryd.ntmps8
    go_wp2
    go_ret
    exact ⟨rfl, bw_refl _⟩
  · have h1 : 1048576 < len1 := by omega
    clear h
    go_enter Tryd.func8, Tryd.ntmps8
    go_wp2
    go_ret
    exact ⟨rfl, bw_refl _⟩

set_option maxHeartbeats 1000000 in
theorem bad_walk (w : World) (a0 : Option Addr) (len0 cap0 : Nat) (z0 : List Int) (r0 : IsRow .u8 w a0 len0 cap0 z0) (a1 : Option Addr) (len1 cap1 : Nat) (z1 : List Int) (_r1 : IsRow .u8 w a1 len1 cap1 z1) (a : Addr) (hs : Sent a w) :
    Calls Tryd.prog 8 #[.slice a0 len0 cap0, .slice a1 len1 cap1] w fun e w' => e = .returned (.bool true) ∧ Below w.heap.size w w' := by
  by_cases hl : 1048576 < len0 ∨ 1048576 < len1
  · exact bad_long w a0 len0 cap0 a1 len1 cap1 hl
  have hl0 : len0 ≤ 1048576 := by omega
  have hl1 : len1 ≤ 1048576 := by omega
  clear hl _r1
  go_enter Tryd.func8, Tryd.ntmps8
  go_wp2_with fail
  refine (drawOk_any w _ r0 (bw_refl _)).mono ?_
  rintro e w1 ⟨n, d, rfl, hfr, b1⟩
  unfold FrB at hfr
  have F := heap_new w1 (.cells #[.int .i64 n, .int .i64 d] 26)
  have L : w1.heap.size < (w1.alloc (.cells #[.int .i64 n, .int .i64 d] 26)).heap.size := by simp
  have B := bw_alloc b1 (.cells #[.int .i64 n, .int .i64 d] 26)
  clear b1
  go_wp2_with fail
  refine (fracOk_any n d a _ (hs.below B)).mono ?_
  rintro e w2 ⟨rfl, J⟩
  obtain ⟨f0, f1⟩ := box2 J L F
  go_wp2_with fail
  refine (sOk_any n d _).mono ?_
  rintro e w3 ⟨rfl, b3⟩
  replace J := bw_trans J b3
  clear b3 f0 f1
  obtain ⟨f0, f1⟩ := box2 J L F
  have hsame : (okB n d != okB n d) = false := by simp
  cases hok : okB n d
  · rw [hok] at hsame
    go_wp2_with fail
    refine (sOk_no n d _ hok).mono ?_
    rintro e w4 ⟨rfl, b4⟩
    replace J := bw_trans J b4
    go_wp2_with fail
    go_ret
    exact ⟨rfl, bw_trans B J⟩
  · rw [hok] at hsame
    have hok' := (okB_iff n d).1 hok
    have hK : 2 ≤ 2 + (len1 : Int) % 7 ∧ 2 + (len1 : Int) % 7 ≤ 8 := by omega
    have m1 : 0 ≤ n * (2 + (len1 : Int) % 7) := Int.mul_nonneg (by omega) (by omega)
    have m2 : n * (2 + (len1 : Int) % 7) ≤ 99999 * 8 := Int.mul_le_mul (by omega) (by omega) (by omega) (by omega)
    have m3 : 0 ≤ d * (2 + (len1 : Int) % 7) := Int.mul_nonneg (by omega) (by omega)
    have m4 : d * (2 + (len1 : Int) % 7) ≤ 99999 * 8 := Int.mul_le_mul (by omega) (by omega) (by omega) (by omega)
    go_wp2_with fail
    refine (fracOk_no _ _ a _ (hs.below (bw_trans B J)) (okB_times n d _ hok hK.1)).mono ?_
    rintro e w4 ⟨rfl, b4⟩
    replace J := bw_trans J b4
    clear b4 f0 f1
    obtain ⟨f0, f1⟩ := box2 J L F
    go_wp2_with fail
    refine (fracOk_no _ _ a _ (hs.below (bw_trans B J)) (okB_zero n)).mono ?_
    rintro e w5 ⟨rfl, b5⟩
    replace J := bw_trans J b5
    clear b5 f0 f1
    obtain ⟨f0, f1⟩ := box2 J L F
    go_wp2_with fail
    refine (fracOk_no _ _ a _ (hs.below (bw_trans B J)) (okB_neg d)).mono ?_
    rintro e w6 ⟨rfl, b6⟩
    replace J := bw_trans J b6
    clear b6 f0 f1
    obtain ⟨f0, f1⟩ := box2 J L F
    go_wp2_with fail
    refine (fracCmp_right n d 2 4 a _ (hs.below (bw_trans B J)) hok okB_24).mono ?_
    rintro e w7 ⟨rfl, b7⟩
    replace J := bw_trans J b7
    go_wp2_with fail
    go_ret
    exact ⟨rfl, bw_trans B J⟩
end Go.Proofs.YtebjdfpfbcbhnaaDoor
