/-
  OUR OWN TEXT. The law FnFracWhole, walked: whatever bytes come in, it answers true and writes nothing that was there.
-/
import Derived.Test.YtebjdfpfbcbhnaaDoorLOrder
import Derived.Lib.QuietBelow
namespace Go.Proofs.YtebjdfpfbcbhnaaDoor
open Go.RowKit Go.Sort

theorem G_one (n : Int) : G n 1 = 1 := by unfold G; simp
theorem okB_one (n : Int) (h : 0 ≤ n) (h2 : n ≤ 99999) : okB n 1 = true := (okB_iff n 1).2 ⟨h, h2, by omega, by omega, G_one n⟩
theorem of_one (n : Int) (h : 0 ≤ n) (h2 : n ≤ 99999) : inB n 1 = true ∧ ofN n 1 = n ∧ ofD n 1 = 1 := by
  have hi : inB n 1 = true := (inB_iff n 1).2 ⟨h, h2, by omega, by omega⟩
  unfold ofN ofD
  rw [hi, G_one]
  exact ⟨rfl, by simp, by simp⟩
theorem of_one_out (n : Int) (h2 : 99999 < n) : inB n 1 = false ∧ ofN n 1 = 0 ∧ ofD n 1 = 0 := by
  have hi : inB n 1 = false := (inB_not n 1).2 (by omega)
  unfold ofN ofD
  rw [hi]
  exact ⟨rfl, rfl, rfl⟩
theorem low_same (n : Int) (h : okB n 1 = true) : cmpV n 1 n 1 = 0 := by
  unfold cmpV; rw [h]; exact (cmpI_zero _ _).2 rfl
theorem low_more (n d : Int) (h : okB n d = true) (hd : d ≠ 1) : cmpV n d (n / d) 1 = 1 := by
  have h' := (okB_iff n d).1 h
  have q0 : 0 ≤ n / d := Int.ediv_nonneg h'.1 (by omega)
  have q1 : n / d ≤ n := Int.ediv_le_self _ h'.1
  have hq := okB_one (n / d) q0 (by omega)
  unfold cmpV
  rw [h, hq]
  have hm := Int.emod_nonneg n (show d ≠ 0 by omega)
  have he := Int.mul_ediv_add_emod n d
  rw [Int.mul_comm] at he
  have hne : n % d ≠ 0 := by
    intro h0
    have hdv : d ∣ n := Int.dvd_of_emod_eq_zero h0
    obtain ⟨N, rfl⟩ := Int.eq_ofNat_of_zero_le h'.1
    obtain ⟨D, rfl⟩ := Int.eq_ofNat_of_zero_le (show 0 ≤ d by omega)
    have hdv' : D ∣ N := Int.ofNat_dvd.1 hdv
    have hg := h'.2.2.2.2
    rw [G_nat, Nat.gcd_eq_right hdv'] at hg
    exact hd hg
  show cmpI (n * 1) (n / d * d) = 1
  unfold cmpI
  rw [if_neg (by omega), if_pos (by omega)]
theorem high_less (n d : Int) (h : okB n d = true) (h2 : n / d + 1 ≤ 99999) : cmpV n d (n / d + 1) 1 = -1 := by
  have h' := (okB_iff n d).1 h
  have q0 : 0 ≤ n / d := Int.ediv_nonneg h'.1 (by omega)
  have hq := okB_one (n / d + 1) (by omega) h2
  unfold cmpV
  rw [h, hq]
  have hm := Int.emod_lt_of_pos n (show 0 < d by omega)
  have he := Int.mul_ediv_add_emod n d
  rw [Int.mul_comm] at he
  have hx : (n / d + 1) * d = n / d * d + d := by rw [Int.add_mul, Int.one_mul]
  show cmpI (n * 1) ((n / d + 1) * d) = -1
  unfold cmpI
  rw [if_pos (by omega)]

set_option maxHeartbeats 1500000 in
theorem whole_walk (w : World) (a0 : Option Addr) (len0 cap0 : Nat) (z0 : List Int) (r0 : IsRow .u8 w a0 len0 cap0 z0) (a : Addr) (hs : Sent a w) :
    Calls Tryd.prog 6 #[.slice a0 len0 cap0] w fun e w' => e = .returned (.bool true) ∧ Below w.heap.size w w' := by
  by_cases hl : 1048576 < len0
  · go_enter Tryd.func6, Tryd.ntmps6
    go_wp2
    go_ret
    exact ⟨rfl, bw_refl _⟩
  have hl0 : len0 ≤ 1048576 := by omega
  clear hl
  go_enter Tryd.func6, Tryd.ntmps6
  go_wp2_with fail
  refine (drawOk_any w _ r0 (bw_refl _)).mono ?_
  rintro e w1 ⟨n, d, rfl, hfr, b1⟩
  have F1 := heap_new w1 (.cells #[.int .i64 n, .int .i64 d] 26)
  have L1 : w1.heap.size < (w1.alloc (.cells #[.int .i64 n, .int .i64 d] 26)).heap.size := by simp
  have B1 := bw_alloc b1 (.cells #[.int .i64 n, .int .i64 d] 26)
  clear b1 hfr
  go_wp2_with fail
  refine (fracOk_any n d a _ (hs.below B1)).mono ?_
  rintro e w2 ⟨rfl, J⟩
  obtain ⟨f0, f1⟩ := box2 J L1 F1
  go_wp2_with fail
  refine (sOk_any n d _).mono ?_
  rintro e w3 ⟨rfl, b3⟩
  replace J := bw_trans J b3
  clear b3 f0 f1
  obtain ⟨f0, f1⟩ := box2 J L1 F1
  have hsame : (okB n d != okB n d) = false := by simp
  cases hok : okB n d
  · rw [hok] at hsame
    go_wp2_with fail
    refine (sOk_no n d _ hok).mono ?_
    rintro e w4 ⟨rfl, b4⟩
    replace J := bw_trans J b4
    go_wp2_with fail
    go_ret
    exact ⟨rfl, bw_trans B1 J⟩
  · rw [hok] at hsame
    have hok' := (okB_iff n d).1 hok
    have q0 : 0 ≤ n / d := Int.ediv_nonneg hok'.1 (by omega)
    have q1 : n / d ≤ n := Int.ediv_le_self _ hok'.1
    obtain ⟨o1, o2, o3⟩ := of_one (n / d) q0 (by omega)
    have hd0 : 1 ≤ d := hok'.2.2.1
    have hn0 : 0 ≤ n := hok'.1
    have hn1 : n ≤ 99999 := hok'.2.1
    go_wp2_with fail
    refine (fracOf_any _ _ a _ (hs.below (bw_trans B1 J))).mono ?_
    rw [o1, o2, o3]
    rintro e w4 ⟨rfl, b4⟩
    replace J := bw_trans J b4
    have F2 := heap_new w4 (.cells #[.int .i64 (n/d), .int .i64 1] 26)
    have L2 : w4.heap.size < (w4.alloc (.cells #[.int .i64 (n/d), .int .i64 1] 26)).heap.size := by simp
    have J2 := bw_alloc J (.cells #[.int .i64 (n/d), .int .i64 1] 26)
    clear b4 f0 f1 o1 o2 o3
    go_wp2_with fail
    refine (fracOf_any _ _ a _ (hs.below (bw_trans B1 J2))).mono ?_
    rintro e w5 ⟨rfl, b5⟩
    have Jw := bw_trans J2 b5
    by_cases hfine : n / d + 1 ≤ 99999
    · obtain ⟨p1, p2, p3⟩ := of_one (n / d + 1) (by omega) hfine
      rw [p1, p2, p3]
      clear p1 p2 p3
      have hless := high_less n d hok hfine
      generalize n / d + 1 = hh at hless ⊢
      have BW := bw_trans B1 (bw_alloc Jw (.cells #[.int .i64 hh, .int .i64 1] 26))
      have JF := bw_alloc b5 (.cells #[.int .i64 hh, .int .i64 1] 26)
      have F1w := ((bw_alloc Jw (.cells #[.int .i64 hh, .int .i64 1] 26)).block _ L1).trans F1
      have L1w := Nat.lt_of_lt_of_le L1 (bw_alloc Jw (.cells #[.int .i64 hh, .int .i64 1] 26)).size
      have F2w := (JF.block _ L2).trans F2
      have L2w := Nat.lt_of_lt_of_le L2 JF.size
      have F3w := heap_new w5 (.cells #[.int .i64 hh, .int .i64 1] 26)
      have L3w : w5.heap.size < (w5.alloc (.cells #[.int .i64 hh, .int .i64 1] 26)).heap.size := by simp
      clear JF b5 J J2 Jw F1 F2 L1 L2 B1
      go_upto_region 10 with fail
      generalize w5.alloc (.cells #[.int .i64 hh, .int .i64 1] 26) = W at BW F1w L1w F2w L2w F3w L3w ⊢
      have hsW := hs.below BW
      have u0 := cell_regrown (box2 (bw_refl _) L1w F1w).1
      have u1 := cell_regrown (box2 (bw_refl _) L1w F1w).2
      have u2 := cell_regrown (box2 (bw_refl _) L2w F2w).1
      have u3 := cell_regrown (box2 (bw_refl _) L2w F2w).2
      have u4 := cell_regrown (box2 (bw_refl _) L3w F3w).1
      have u5 := cell_regrown (box2 (bw_refl _) L3w F3w).2
      clear F1w F2w F3w L1w L2w L3w
      by_cases hd1 : d = 1
      · have hdB : (d == 1) = true := by simpa using hd1
        have CL : ∀ d' os, Calls Tryd.prog 18 #[.agg #[.int .i64 n, .int .i64 d], .agg #[.int .i64 (n / d), .int .i64 1]] (grow (redrawn W d') os) fun e w'' => e = .returned (.int .i64 0) ∧ ∃ p : Regrown, w'' = grow (redrawn W p.d) p.os := fun d' os => Calls.regrown_of (by
          have := fracCmp_any n d (n / d) 1 a _ (hsW.below (below_regrown W d' os))
          rwa [show cmpV n d (n / d) 1 = 0 by subst hd1; rw [Int.ediv_one]; exact low_same n hok] at this)
        have CH : ∀ d' os, Calls Tryd.prog 18 #[.agg #[.int .i64 n, .int .i64 d], .agg #[.int .i64 hh, .int .i64 1]] (grow (redrawn W d') os) fun e w'' => e = .returned (.int .i64 (-1)) ∧ ∃ p : Regrown, w'' = grow (redrawn W p.d) p.os := fun d' os => Calls.regrown_of (by
          have := fracCmp_any n d hh 1 a _ (hsW.below (below_regrown W d' os))
          rwa [hless] at this)
        have HL : Hid _ := CL
        have HH : Hid _ := CH
        clear CH
        clear CL hd1 hok hok' hfine hs hsW hless
        go_wp2_with fail
        refine wp_region_quiet_below (by kernel_rfl) (by kernel_rfl) ?_
        repeat (first | go_big_quiet_step (first | (go_at_call_of 18 hh; exact HH.out _ _) | (go_at_call 18; exact HL.out _ _)))
        refine wpQuiet_nil ?_
        intro _ hw'
        obtain ⟨⟨dq, osq⟩, hw''⟩ := hw'
        subst hw''
        go_wp2_with fail
        go_ret
        exact ⟨rfl, bw_trans BW (below_regrown W dq osq)⟩
      · have hdB : (d == 1) = false := by simpa using hd1
        have CL : ∀ d' os, Calls Tryd.prog 18 #[.agg #[.int .i64 n, .int .i64 d], .agg #[.int .i64 (n / d), .int .i64 1]] (grow (redrawn W d') os) fun e w'' => e = .returned (.int .i64 1) ∧ ∃ p : Regrown, w'' = grow (redrawn W p.d) p.os := fun d' os => Calls.regrown_of (by
          have := fracCmp_any n d (n / d) 1 a _ (hsW.below (below_regrown W d' os))
          rwa [low_more n d hok hd1] at this)
        have CH : ∀ d' os, Calls Tryd.prog 18 #[.agg #[.int .i64 n, .int .i64 d], .agg #[.int .i64 hh, .int .i64 1]] (grow (redrawn W d') os) fun e w'' => e = .returned (.int .i64 (-1)) ∧ ∃ p : Regrown, w'' = grow (redrawn W p.d) p.os := fun d' os => Calls.regrown_of (by
          have := fracCmp_any n d hh 1 a _ (hsW.below (below_regrown W d' os))
          rwa [hless] at this)
        have HL : Hid _ := CL
        have HH : Hid _ := CH
        clear CH
        clear CL hd1 hok hok' hfine hs hsW hless
        go_wp2_with fail
        refine wp_region_quiet_below (by kernel_rfl) (by kernel_rfl) ?_
        repeat (first | go_big_quiet_step (first | (go_at_call_of 18 hh; exact HH.out _ _) | (go_at_call 18; exact HL.out _ _)))
        refine wpQuiet_nil ?_
        intro _ hw'
        obtain ⟨⟨dq, osq⟩, hw''⟩ := hw'
        subst hw''
        go_wp2_with fail
        go_ret
        exact ⟨rfl, bw_trans BW (below_regrown W dq osq)⟩
    · obtain ⟨p1, p2, p3⟩ := of_one_out (n / d + 1) (by omega)
      rw [p1, p2, p3]
      clear p1 p2 p3
      have BW := bw_trans B1 (bw_alloc Jw (.cells #[.int .i64 0, .int .i64 0] 26))
      have JF := bw_alloc b5 (.cells #[.int .i64 0, .int .i64 0] 26)
      have F1w := ((bw_alloc Jw (.cells #[.int .i64 0, .int .i64 0] 26)).block _ L1).trans F1
      have L1w := Nat.lt_of_lt_of_le L1 (bw_alloc Jw (.cells #[.int .i64 0, .int .i64 0] 26)).size
      have F2w := (JF.block _ L2).trans F2
      have L2w := Nat.lt_of_lt_of_le L2 JF.size
      have F3w := heap_new w5 (.cells #[.int .i64 0, .int .i64 0] 26)
      have L3w : w5.heap.size < (w5.alloc (.cells #[.int .i64 0, .int .i64 0] 26)).heap.size := by simp
      clear JF b5 J J2 Jw F1 F2 L1 L2 B1
      go_upto_region 10 with fail
      generalize w5.alloc (.cells #[.int .i64 0, .int .i64 0] 26) = W at BW F1w L1w F2w L2w F3w L3w ⊢
      have hsW := hs.below BW
      have u0 := cell_regrown (box2 (bw_refl _) L1w F1w).1
      have u1 := cell_regrown (box2 (bw_refl _) L1w F1w).2
      have u2 := cell_regrown (box2 (bw_refl _) L2w F2w).1
      have u3 := cell_regrown (box2 (bw_refl _) L2w F2w).2
      have u4 := cell_regrown (box2 (bw_refl _) L3w F3w).1
      have u5 := cell_regrown (box2 (bw_refl _) L3w F3w).2
      clear F1w F2w F3w L1w L2w L3w
      by_cases hd1 : d = 1
      · have hdB : (d == 1) = true := by simpa using hd1
        have CL : ∀ d' os, Calls Tryd.prog 18 #[.agg #[.int .i64 n, .int .i64 d], .agg #[.int .i64 (n / d), .int .i64 1]] (grow (redrawn W d') os) fun e w'' => e = .returned (.int .i64 0) ∧ ∃ p : Regrown, w'' = grow (redrawn W p.d) p.os := fun d' os => Calls.regrown_of (by
          have := fracCmp_any n d (n / d) 1 a _ (hsW.below (below_regrown W d' os))
          rwa [show cmpV n d (n / d) 1 = 0 by subst hd1; rw [Int.ediv_one]; exact low_same n hok] at this)
        have HL : Hid _ := CL
        clear CL hd1 hok hok' hfine hs hsW
        go_wp2_with fail
        refine wp_region_quiet_below (by kernel_rfl) (by kernel_rfl) ?_
        repeat (first | go_big_quiet_step (first | (go_at_call 18; exact HL.out _ _)))
        refine wpQuiet_nil ?_
        intro _ hw'
        obtain ⟨⟨dq, osq⟩, hw''⟩ := hw'
        subst hw''
        go_wp2_with fail
        go_ret
        exact ⟨rfl, bw_trans BW (below_regrown W dq osq)⟩
      · have hdB : (d == 1) = false := by simpa using hd1
        have CL : ∀ d' os, Calls Tryd.prog 18 #[.agg #[.int .i64 n, .int .i64 d], .agg #[.int .i64 (n / d), .int .i64 1]] (grow (redrawn W d') os) fun e w'' => e = .returned (.int .i64 1) ∧ ∃ p : Regrown, w'' = grow (redrawn W p.d) p.os := fun d' os => Calls.regrown_of (by
          have := fracCmp_any n d (n / d) 1 a _ (hsW.below (below_regrown W d' os))
          rwa [low_more n d hok hd1] at this)
        have HL : Hid _ := CL
        clear CL hd1 hok hok' hfine hs hsW
        go_wp2_with fail
        refine wp_region_quiet_below (by kernel_rfl) (by kernel_rfl) ?_
        repeat (first | go_big_quiet_step (first | (go_at_call 18; exact HL.out _ _)))
        refine wpQuiet_nil ?_
        intro _ hw'
        obtain ⟨⟨dq, osq⟩, hw''⟩ := hw'
        subst hw''
        go_wp2_with fail
        go_ret
        exact ⟨rfl, bw_trans BW (below_regrown W dq osq)⟩
end Go.Proofs.YtebjdfpfbcbhnaaDoor
