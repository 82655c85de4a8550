/-
  OUR OWN TEXT. The specification's FracOk, FracOf, l1Of, l1Cmp and FracCmp by contract, at every argument (l1Of, l1Cmp: within the limits).
-/
import Derived.Test.YtebjdfpfbcbhnaaDoorCmp
namespace Go.Proofs.YtebjdfpfbcbhnaaDoor
open Go.RowKit

theorem in_yes (n lo hi : Int) (w : World) (h1 : lo ≤ n) (h2 : n ≤ hi) :
    Calls Tryd.prog 29 #[.int .i64 n, .int .i64 lo, .int .i64 hi] w fun e w' => e = .returned (.bool true) ∧ w' = w := by
  go_enter Tryd.func29, Tryd.ntmps29
  go_wp2
  go_ret
  exact ⟨rfl, rfl⟩
theorem in_no (n lo hi : Int) (w : World) (h : n < lo ∨ hi < n) :
    Calls Tryd.prog 29 #[.int .i64 n, .int .i64 lo, .int .i64 hi] w fun e w' => e = .returned (.bool false) ∧ w' = w := by
  have hc : n < lo ∨ (lo ≤ n ∧ hi < n) := by omega
  clear h
  rcases hc with h | ⟨h, h2⟩
  all_goals
    go_enter Tryd.func29, Tryd.ntmps29
    go_wp2
    go_ret
    first | exact ⟨rfl, rfl⟩ | exact ⟨ret_bool (decide_eq_false (by omega)), rfl⟩

theorem sOk_n (n d : Int) (w : World) (h : n < 0 ∨ 99999 < n) :
    Calls Tryd.prog 20 #[.agg #[.int .i64 n, .int .i64 d]] w fun e w' => e = .returned (.bool false) ∧ Below w.heap.size w w' := by
  go_enter Tryd.func20, Tryd.ntmps20
  go_wp2_with (go_at_call 29; refine (in_no _ _ _ _ h).mono ?_; rintro e w' ⟨rfl, rfl⟩)
  go_ret
  exact ⟨rfl, by repeat (first | exact bw_refl _ | apply bw_drewN | apply bw_drew | apply bw_alloc | refine bw_set ?_ (by simp) _)⟩
theorem sOk_d (n d : Int) (w : World) (h1 : 0 ≤ n) (h2 : n ≤ 99999) (h : d < 1 ∨ 99999 < d) :
    Calls Tryd.prog 20 #[.agg #[.int .i64 n, .int .i64 d]] w fun e w' => e = .returned (.bool false) ∧ Below w.heap.size w w' := by
  go_enter Tryd.func20, Tryd.ntmps20
  go_wp2_with fail
  refine (in_yes _ _ _ _ h1 h2).mono ?_
  rintro e w' ⟨rfl, rfl⟩
  go_wp2_with fail
  refine (in_no _ _ _ _ h).mono ?_
  rintro e w' ⟨rfl, rfl⟩
  go_wp2_with fail
  go_ret
  exact ⟨rfl, by repeat (first | exact bw_refl _ | apply bw_drewN | apply bw_drew | apply bw_alloc | refine bw_set ?_ (by simp) _)⟩
theorem sOk_g (n d : Int) (w : World) (h1 : 0 ≤ n) (h2 : n ≤ 99999) (h3 : 1 ≤ d) (h4 : d ≤ 99999) :
    Calls Tryd.prog 20 #[.agg #[.int .i64 n, .int .i64 d]] w fun e w' => e = .returned (.bool (G n d == 1)) ∧ Below w.heap.size w w' := by
  go_enter Tryd.func20, Tryd.ntmps20
  go_wp2_with fail
  refine (in_yes _ _ _ _ h1 h2).mono ?_
  rintro e w' ⟨rfl, rfl⟩
  go_wp2_with fail
  refine (in_yes _ _ _ _ h3 h4).mono ?_
  rintro e w' ⟨rfl, rfl⟩
  go_wp2_with fail
  refine (gcd_spec _ _ _ h1 (by omega) (by omega) (by omega)).mono ?_
  rintro e w' ⟨rfl, m, rfl⟩
  go_wp2_with fail
  go_ret
  exact ⟨rfl, by repeat (first | exact bw_refl _ | apply bw_drewN | apply bw_drew | apply bw_alloc | refine bw_set ?_ (by simp) _)⟩
/-- The specification's FracOk at every fraction. -/
theorem sOk_any (n d : Int) (w : World) :
    Calls Tryd.prog 20 #[.agg #[.int .i64 n, .int .i64 d]] w fun e w' => e = .returned (.bool (okB n d)) ∧ Below w.heap.size w w' := by
  by_cases h1 : 0 ≤ n ∧ n ≤ 99999
  · by_cases h2 : 1 ≤ d ∧ d ≤ 99999
    · have e : okB n d = (G n d == 1) := by
        unfold okB; rw [Bool.eq_iff_iff]; simp; omega
      rw [e]
      exact sOk_g n d w h1.1 h1.2 h2.1 h2.2
    · have e : okB n d = false := (okB_not n d).2 (by omega)
      rw [e]
      exact sOk_d n d w h1.1 h1.2 (by omega)
  · have e : okB n d = false := (okB_not n d).2 (by omega)
    rw [e]
    exact sOk_n n d w (by omega)

/-- One number divided by another one, within the limits. -/
theorem l1Of_any (n d : Int) (w : World) (h1 : 0 ≤ n) (h2 : n ≤ 99999) (h3 : 1 ≤ d) (h4 : d ≤ 99999) :
    Calls Tryd.prog 30 #[.int .i64 n, .int .i64 d] w fun e w' => e = .returned (.agg #[.int .i64 (n / G n d), .int .i64 (d / G n d)]) ∧ Below w.heap.size w w' := by
  have hg := G_pos n d h3
  have hz : (G n d == 0) = false := by simp; omega
  go_enter Tryd.func30, Tryd.ntmps30
  go_wp2_with (go_at_call 38; refine (gcd_spec _ _ _ h1 (by omega) (by omega) (by omega)).mono ?_; rintro e w' ⟨rfl, m, rfl⟩)
  go_region
  all_goals go_wp2
  all_goals exact bodyPost_ret (v := .agg #[.int .i64 (n / G n d), .int .i64 (d / G n d)]) (by simp [results, Tryd.results30, go_sem]) rfl ⟨rfl, by repeat (first | exact bw_refl _ | apply bw_drewN | apply bw_drew | apply bw_alloc | refine bw_set ?_ (by simp) _)⟩

theorem sOf_bad (n d : Int) (w : World) (h : inB n d = false) :
    Calls Tryd.prog 14 #[.int .i64 n, .int .i64 d] w fun e w' => e = .returned (.tuple #[.agg #[.int .i64 0, .int .i64 0], .bool false]) ∧ Below w.heap.size w w' := by
  rw [inB_not] at h
  by_cases h1 : 0 ≤ n ∧ n ≤ 99999
  · go_enter Tryd.func14, Tryd.ntmps14
    go_wp2_with fail
    refine (in_yes _ _ _ _ h1.1 h1.2).mono ?_
    rintro e w' ⟨rfl, rfl⟩
    go_wp2_with fail
    refine (in_no _ _ _ _ (by omega)).mono ?_
    rintro e w' ⟨rfl, rfl⟩
    go_wp2_with fail
    exact bodyPost_ret (v := .tuple #[.agg #[.int .i64 0, .int .i64 0], .bool false]) (by simp [results, Tryd.results14, go_sem]) rfl ⟨rfl, by repeat (first | exact bw_refl _ | apply bw_drewN | apply bw_drew | apply bw_alloc | refine bw_set ?_ (by simp) _)⟩
  · go_enter Tryd.func14, Tryd.ntmps14
    go_wp2_with fail
    refine (in_no _ _ _ _ (by omega)).mono ?_
    rintro e w' ⟨rfl, rfl⟩
    go_wp2_with fail
    exact bodyPost_ret (v := .tuple #[.agg #[.int .i64 0, .int .i64 0], .bool false]) (by simp [results, Tryd.results14, go_sem]) rfl ⟨rfl, by repeat (first | exact bw_refl _ | apply bw_drewN | apply bw_drew | apply bw_alloc | refine bw_set ?_ (by simp) _)⟩
theorem sOf_ok (n d : Int) (w : World) (h : inB n d = true) :
    Calls Tryd.prog 14 #[.int .i64 n, .int .i64 d] w fun e w' => e = .returned (.tuple #[.agg #[.int .i64 (n / G n d), .int .i64 (d / G n d)], .bool true]) ∧ Below w.heap.size w w' := by
  rw [inB_iff] at h
  have b0 : Below w.heap.size w (w.alloc (.cells #[.int .i64 0, .int .i64 0] 26)) := bw_alloc (bw_refl _) _
  go_enter Tryd.func14, Tryd.ntmps14
  go_wp2_with fail
  refine (in_yes _ _ _ _ h.1 h.2.1).mono ?_
  rintro e w' ⟨rfl, rfl⟩
  go_wp2_with fail
  refine (in_yes _ _ _ _ h.2.2.1 h.2.2.2).mono ?_
  rintro e w' ⟨rfl, rfl⟩
  go_wp2_with fail
  refine (l1Of_any n d _ h.1 h.2.1 h.2.2.1 h.2.2.2).mono ?_
  rintro e w1 ⟨rfl, hb⟩
  have HB : Hid (Below w.heap.size w w1) := bw_trans b0 hb
  obtain ⟨hc, hf⟩ := bcell hb
  have hz : w.heap.size < w1.heap.size := by have := hb.size; simp at this; omega
  clear hb
  go_wp2_with fail
  exact bodyPost_ret (v := .tuple #[.agg #[.int .i64 (n / G n d), .int .i64 (d / G n d)], .bool true]) (by simp [results, Tryd.results14, go_sem, hc]) rfl ⟨rfl, by repeat (first | exact HB.out | refine bw_set ?_ (by simp) _)⟩
theorem sOf_any (n d : Int) (w : World) :
    Calls Tryd.prog 14 #[.int .i64 n, .int .i64 d] w fun e w' => e = .returned (.tuple #[.agg #[.int .i64 (ofN n d), .int .i64 (ofD n d)], .bool (inB n d)]) ∧ Below w.heap.size w w' := by
  unfold ofN ofD
  cases h : inB n d
  · exact sOf_bad n d w h
  · exact sOf_ok n d w h

theorem l1Cmp_any (n d m b : Int) (w : World) (h : okB n d = true) (h' : okB m b = true) :
    Calls Tryd.prog 37 #[.agg #[.int .i64 n, .int .i64 d], .agg #[.int .i64 m, .int .i64 b]] w fun e w' => e = .returned (.int .i64 (cmpI (n * b) (m * d))) ∧ Below w.heap.size w w' := by
  have k1 := (okB_iff n d).1 h
  have k2 := (okB_iff m b).1 h'
  obtain ⟨p1, p2⟩ := mul_bd n b k1.1 k1.2.1 (by omega) k2.2.2.2.1
  obtain ⟨q1, q2⟩ := mul_bd m d k2.1 k2.2.1 (by omega) k1.2.2.2.1
  clear h h' k1 k2
  have hc : n * b < m * d ∨ (¬ n * b < m * d ∧ m * d < n * b) ∨ (¬ n * b < m * d ∧ ¬ m * d < n * b) := by omega
  rcases hc with h1 | ⟨h1, h2⟩ | ⟨h1, h2⟩
  · have e : Hid (cmpI (n * b) (m * d) = -1) := by unfold cmpI; rw [if_pos h1]; rfl
    go_enter Tryd.func37, Tryd.ntmps37
    go_wp2
    go_ret
    exact ⟨ret_int e.out.symm, by repeat (first | exact bw_refl _ | apply bw_drewN | apply bw_drew | apply bw_alloc | refine bw_set ?_ (by simp) _)⟩
  · have e : Hid (cmpI (n * b) (m * d) = 1) := by unfold cmpI; rw [if_neg h1, if_pos h2]; rfl
    go_enter Tryd.func37, Tryd.ntmps37
    go_wp2
    go_ret
    exact ⟨ret_int e.out.symm, by repeat (first | exact bw_refl _ | apply bw_drewN | apply bw_drew | apply bw_alloc | refine bw_set ?_ (by simp) _)⟩
  · have e : Hid (cmpI (n * b) (m * d) = 0) := by unfold cmpI; rw [if_neg h1, if_neg h2]; rfl
    go_enter Tryd.func37, Tryd.ntmps37
    go_wp2
    go_ret
    exact ⟨ret_int e.out.symm, by repeat (first | exact bw_refl _ | apply bw_drewN | apply bw_drew | apply bw_alloc | refine bw_set ?_ (by simp) _)⟩

theorem sOk_yes (n d : Int) (w : World) (h : okB n d = true) :
    Calls Tryd.prog 20 #[.agg #[.int .i64 n, .int .i64 d]] w fun e w' => e = .returned (.bool true) ∧ Below w.heap.size w w' := by
  rw [← h]; exact sOk_any n d w
theorem sOk_no (n d : Int) (w : World) (h : okB n d = false) :
    Calls Tryd.prog 20 #[.agg #[.int .i64 n, .int .i64 d]] w fun e w' => e = .returned (.bool false) ∧ Below w.heap.size w w' := by
  rw [← h]; exact sOk_any n d w

theorem sCmp_left (n d m b : Int) (w : World) (h : okB n d = false) :
    Calls Tryd.prog 19 #[.agg #[.int .i64 n, .int .i64 d], .agg #[.int .i64 m, .int .i64 b]] w fun e w' => e = .returned (.int .i64 2) ∧ Below w.heap.size w w' := by
  have b0 : Below w.heap.size w ((w.alloc (.cells #[.int .i64 n, .int .i64 d] 26)).alloc (.cells #[.int .i64 m, .int .i64 b] 26)) := bw_alloc (bw_alloc (bw_refl _) _) _
  go_enter Tryd.func19, Tryd.ntmps19
  go_wp2_with fail
  refine (sOk_no _ _ _ h).mono ?_
  rintro e w1 ⟨rfl, hb⟩
  go_wp2_with fail
  go_ret
  exact ⟨rfl, bw_trans b0 hb⟩
theorem sCmp_right (n d m b : Int) (w : World) (h : okB n d = true) (h2 : okB m b = false) :
    Calls Tryd.prog 19 #[.agg #[.int .i64 n, .int .i64 d], .agg #[.int .i64 m, .int .i64 b]] w fun e w' => e = .returned (.int .i64 2) ∧ Below w.heap.size w w' := by
  have b0 : Below w.heap.size w ((w.alloc (.cells #[.int .i64 n, .int .i64 d] 26)).alloc (.cells #[.int .i64 m, .int .i64 b] 26)) := bw_alloc (bw_alloc (bw_refl _) _) _
  go_enter Tryd.func19, Tryd.ntmps19
  go_wp2_with fail
  refine (sOk_yes _ _ _ h).mono ?_
  rintro e w1 ⟨rfl, hb⟩
  obtain ⟨hc, hf⟩ := bcell hb
  go_wp2_with fail
  refine (sOk_no _ _ _ h2).mono ?_
  rintro e w2 ⟨rfl, hb2⟩
  go_wp2_with fail
  go_ret
  exact ⟨rfl, bw_trans (bw_trans b0 hb) hb2⟩
theorem sCmp_both (n d m b : Int) (w : World) (h : okB n d = true) (h2 : okB m b = true) :
    Calls Tryd.prog 19 #[.agg #[.int .i64 n, .int .i64 d], .agg #[.int .i64 m, .int .i64 b]] w fun e w' => e = .returned (.int .i64 (cmpI (n * b) (m * d))) ∧ Below w.heap.size w w' := by
  have b0 : Below w.heap.size w ((w.alloc (.cells #[.int .i64 n, .int .i64 d] 26)).alloc (.cells #[.int .i64 m, .int .i64 b] 26)) := bw_alloc (bw_alloc (bw_refl _) _) _
  go_enter Tryd.func19, Tryd.ntmps19
  go_wp2_with fail
  refine (sOk_yes _ _ _ h).mono ?_
  rintro e w1 ⟨rfl, hb⟩
  obtain ⟨hc, hf⟩ := bcell hb
  go_wp2_with fail
  refine (sOk_yes _ _ _ h2).mono ?_
  rintro e w2 ⟨rfl, hb2⟩
  clear hc hf
  obtain ⟨hc2, hf2⟩ := bcell (bw_trans hb hb2)
  go_wp2_with fail
  refine (l1Cmp_any _ _ _ _ _ h h2).mono ?_
  rintro e w3 ⟨rfl, hb3⟩
  go_wp2_with fail
  go_ret
  exact ⟨rfl, bw_trans (bw_trans (bw_trans b0 hb) hb2) hb3⟩
/-- The specification's FracCmp at every two fractions. -/
theorem sCmp_any (n d m b : Int) (w : World) :
    Calls Tryd.prog 19 #[.agg #[.int .i64 n, .int .i64 d], .agg #[.int .i64 m, .int .i64 b]] w fun e w' => e = .returned (.int .i64 (cmpV n d m b)) ∧ Below w.heap.size w w' := by
  unfold cmpV
  cases h : okB n d
  · exact sCmp_left n d m b w h
  · cases h2 : okB m b
    · exact sCmp_right n d m b w h h2
    · exact sCmp_both n d m b w h h2
end Go.Proofs.YtebjdfpfbcbhnaaDoor
