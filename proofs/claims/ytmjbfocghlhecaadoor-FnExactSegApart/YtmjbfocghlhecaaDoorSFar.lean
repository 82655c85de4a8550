/-
  OUR OWN TEXT. The specification's how far, by contract.
-/
import Derived.Test.YtmjbfocghlhecaaDoorFarSeg
namespace Go.Proofs.YtmjbfocghlhecaaDoor
open Go.RowKit Go.Sort

/-- One number divided by another one, within the limits. -/
theorem l1Of_any (n d : Int) (w : World) (h1 : 0 ≤ n) (h2 : n ≤ 99999) (h3 : 1 ≤ d) (h4 : d ≤ 99999) :
    Calls Tryd.prog 72 #[.int .i64 n, .int .i64 d] w fun e w' => e = .returned (.agg #[.int .i64 (n / G n d), .int .i64 (d / G n d)]) ∧ Below w.heap.size w w' := by
  have hg := G_pos n d h3
  have hz : (G n d == 0) = false := by simp; omega
  go_enter Tryd.func72, Tryd.ntmps72
  go_wp2_with (go_at_call 80; refine (gcd_spec _ _ _ h1 (by omega) (by omega) (by omega)).mono ?_; rintro e w' ⟨rfl, m, rfl⟩)
  go_region
  all_goals go_wp2
  all_goals exact bodyPost_ret (v := .agg #[.int .i64 (n / G n d), .int .i64 (d / G n d)]) (by simp [results, Tryd.results72, go_sem]) rfl ⟨rfl, by repeat (first | exact bw_refl _ | apply bw_drewN | apply bw_drew | apply bw_alloc | refine bw_set ?_ (by simp) _)⟩

theorem l1Cmp_any (n d m b : Int) (w : World) (h : okB n d = true) (h' : okB m b = true) :
    Calls Tryd.prog 82 #[.agg #[.int .i64 n, .int .i64 d], .agg #[.int .i64 m, .int .i64 b]] w fun e w' => e = .returned (.int .i64 (cmpI (n * b) (m * d))) ∧ Below w.heap.size w w' := by
  have k1 := (okB_iff n d).1 h
  have k2 := (okB_iff m b).1 h'
  obtain ⟨p1, p2⟩ := mul_bd n b k1.1 k1.2.1 (by omega) k2.2.2.2.1
  obtain ⟨q1, q2⟩ := mul_bd m d k2.1 k2.2.1 (by omega) k1.2.2.2.1
  clear h h' k1 k2
  have hc : n * b < m * d ∨ (¬ n * b < m * d ∧ m * d < n * b) ∨ (¬ n * b < m * d ∧ ¬ m * d < n * b) := by omega
  rcases hc with h1 | ⟨h1, h2⟩ | ⟨h1, h2⟩
  · have e : Hid (cmpI (n * b) (m * d) = -1) := by unfold cmpI; rw [if_pos h1]; rfl
    go_enter Tryd.func82, Tryd.ntmps82
    go_wp2
    go_ret
    exact ⟨ret_int e.out.symm, by repeat (first | exact bw_refl _ | apply bw_drewN | apply bw_drew | apply bw_alloc | refine bw_set ?_ (by simp) _)⟩
  · have e : Hid (cmpI (n * b) (m * d) = 1) := by unfold cmpI; rw [if_neg h1, if_pos h2]; rfl
    go_enter Tryd.func82, Tryd.ntmps82
    go_wp2
    go_ret
    exact ⟨ret_int e.out.symm, by repeat (first | exact bw_refl _ | apply bw_drewN | apply bw_drew | apply bw_alloc | refine bw_set ?_ (by simp) _)⟩
  · have e : Hid (cmpI (n * b) (m * d) = 0) := by unfold cmpI; rw [if_neg h1, if_neg h2]; rfl
    go_enter Tryd.func82, Tryd.ntmps82
    go_wp2
    go_ret
    exact ⟨ret_int e.out.symm, by repeat (first | exact bw_refl _ | apply bw_drewN | apply bw_drew | apply bw_alloc | refine bw_set ?_ (by simp) _)⟩

theorem l1Of_of (n d : Int) (w : World) (h : inB n d = true) :
    Calls Tryd.prog 72 #[.int .i64 n, .int .i64 d] w fun e w' => e = .returned (.agg #[.int .i64 (ofN n d), .int .i64 (ofD n d)]) ∧ Below w.heap.size w w' := by
  have h' := (inB_iff n d).1 h
  unfold ofN ofD
  rw [h]
  exact l1Of_any n d w h'.1 h'.2.1 h'.2.2.1 h'.2.2.2
set_option maxHeartbeats 1000000 in
theorem sFar_ok (ax ay bx b_y px py : Int) (w : World) (gs : sgB ax ay bx b_y = true) (gp : ptB px py = true) :
    Calls Tryd.prog 53 #[.agg #[.int .i64 ax, .int .i64 ay, .int .i64 bx, .int .i64 b_y], .agg #[.int .i64 px, .int .i64 py]] w fun e w' => e = .returned (.agg #[.int .i64 (far ax ay bx b_y px py).1, .int .i64 (far ax ay bx b_y px py).2]) ∧ Below w.heap.size w w' := by
  obtain ⟨pa, pb, _⟩ := sg_parts gs
  have hb := dt_back ax ay bx b_y px py
  unfold far
  by_cases h : dt ax ay bx b_y px py ≤ 0
  · rw [if_pos h]
    clear hb
    go_enter Tryd.func53, Tryd.ntmps53
    go_wp2_with fail
    refine (sDot_any _ _ _ _ _ _ _ pa pb gp).mono ?_
    rintro e w1 ⟨rfl, J⟩
    obtain ⟨hc, hf⟩ := bcell J
    go_wp2_with fail
    refine (sDot_any _ _ _ _ _ _ _ pa pb pb).mono ?_
    rintro e w1 ⟨rfl, J2⟩
    replace J := bw_trans J J2
    clear hc hf J2
    obtain ⟨hc, hf⟩ := bcell J
    go_wp2_with fail
    refine (sDot_any _ _ _ _ _ _ _ pa gp gp).mono ?_
    rintro e w1 ⟨rfl, J2⟩
    replace J := bw_trans J J2
    clear hc hf J2
    obtain ⟨hc, hf⟩ := bcell J
    have HB : Hid (Below w.heap.size w w1) := bw_trans (by repeat (first | exact bw_refl _ | assumption | apply bw_drewN | apply bw_drew | apply bw_alloc | refine bw_set ?_ (by simp) _)) J
    have hz := J.size
    simp at hz
    have hz' : w.heap.size + 2 < w1.heap.size := by omega
    clear hz J
    go_wp2_with fail
    exact bodyPost_ret (v := .agg #[.int .i64 (dt ax ay px py px py), .int .i64 1]) (by simp [results, Tryd.results53, go_sem, hc]) rfl ⟨rfl, by repeat (first | with_reducible exact HB.out | with_reducible refine bw_set ?_ (by dsimp only; omega) _)⟩
  · rw [if_neg h]
    have h' : 0 < dt ax ay bx b_y px py := by omega
    by_cases h2 : dt bx b_y ax ay px py ≤ 0
    · rw [if_pos h2]
      have h3 : dt ax ay bx b_y bx b_y ≤ dt ax ay bx b_y px py := by omega
      clear hb h h2
      go_enter Tryd.func53, Tryd.ntmps53
      go_wp2_with fail
      refine (sDot_any _ _ _ _ _ _ _ pa pb gp).mono ?_
      rintro e w1 ⟨rfl, J⟩
      obtain ⟨hc, hf⟩ := bcell J
      go_wp2_with fail
      refine (sDot_any _ _ _ _ _ _ _ pa pb pb).mono ?_
      rintro e w1 ⟨rfl, J2⟩
      replace J := bw_trans J J2
      clear hc hf J2
      obtain ⟨hc, hf⟩ := bcell J
      go_wp2_with fail
      refine (sDot_any _ _ _ _ _ _ _ pb gp gp).mono ?_
      rintro e w1 ⟨rfl, J2⟩
      replace J := bw_trans J J2
      clear hc hf J2
      obtain ⟨hc, hf⟩ := bcell J
      have HB : Hid (Below w.heap.size w w1) := bw_trans (by repeat (first | exact bw_refl _ | assumption | apply bw_drewN | apply bw_drew | apply bw_alloc | refine bw_set ?_ (by simp) _)) J
      have hz := J.size
      simp at hz
      have hz' : w.heap.size + 2 < w1.heap.size := by omega
      clear hz J
      go_wp2_with fail
      exact bodyPost_ret (v := .agg #[.int .i64 (dt bx b_y px py px py), .int .i64 1]) (by simp [results, Tryd.results53, go_sem, hc]) rfl ⟨rfl, by repeat (first | with_reducible exact HB.out | with_reducible refine bw_set ?_ (by dsimp only; omega) _)⟩
    · rw [if_neg h2]
      have h3 : dt ax ay bx b_y px py < dt ax ay bx b_y bx b_y := by omega
      have d1 := crs_bd pa pb gp
      have d2 := prod_bd2 d1.1 d1.2 d1.1 d1.2
      have hi := line_in gs gp
      clear hb h h2
      go_enter Tryd.func53, Tryd.ntmps53
      go_wp2_with fail
      refine (sDot_any _ _ _ _ _ _ _ pa pb gp).mono ?_
      rintro e w1 ⟨rfl, J⟩
      obtain ⟨hc, hf⟩ := bcell J
      go_wp2_with fail
      refine (sDot_any _ _ _ _ _ _ _ pa pb pb).mono ?_
      rintro e w1 ⟨rfl, J2⟩
      replace J := bw_trans J J2
      clear hc hf J2
      obtain ⟨hc, hf⟩ := bcell J
      go_wp2_with fail
      refine (sCross_any _ _ _ _ _ _ _ pa pb gp).mono ?_
      rintro e w1 ⟨rfl, J2⟩
      replace J := bw_trans J J2
      clear hc hf J2
      obtain ⟨hc, hf⟩ := bcell J
      go_wp2_with fail
      refine (l1Of_of _ _ _ hi).mono ?_
      rintro e w1 ⟨rfl, J2⟩
      replace J := bw_trans J J2
      clear hc hf J2
      obtain ⟨hc, hf⟩ := bcell J
      have HB : Hid (Below w.heap.size w w1) := bw_trans (by repeat (first | exact bw_refl _ | assumption | apply bw_drewN | apply bw_drew | apply bw_alloc | refine bw_set ?_ (by simp) _)) J
      have hz := J.size
      simp at hz
      have hz' : w.heap.size + 2 < w1.heap.size := by omega
      clear hz J
      go_wp2_with fail
      exact bodyPost_ret (v := .agg #[.int .i64 (ofN (crs ax ay bx b_y px py * crs ax ay bx b_y px py) (dt ax ay bx b_y bx b_y)), .int .i64 (ofD (crs ax ay bx b_y px py * crs ax ay bx b_y px py) (dt ax ay bx b_y bx b_y))]) (by simp [results, Tryd.results53, go_sem, hc]) rfl ⟨rfl, by repeat (first | with_reducible exact HB.out | with_reducible refine bw_set ?_ (by dsimp only; omega) _)⟩
set_option maxHeartbeats 1000000 in
theorem sFar_no (ax ay bx b_y px py : Int) (w : World) (h : sgB ax ay bx b_y = false ∨ (sgB ax ay bx b_y = true ∧ ptB px py = false)) :
    Calls Tryd.prog 23 #[.agg #[.int .i64 ax, .int .i64 ay, .int .i64 bx, .int .i64 b_y], .agg #[.int .i64 px, .int .i64 py]] w fun e w' => e = .returned (.agg #[.int .i64 0, .int .i64 0]) ∧ Below w.heap.size w w' := by
  rcases h with gs | ⟨gs, gp⟩
  · go_enter Tryd.func23, Tryd.ntmps23
    go_wp2_with fail
    refine (sSeg_any _ _ _ _ _).mono ?_
    rw [gs]
    rintro e w1 ⟨rfl, J⟩
    obtain ⟨hc, hf⟩ := bcell J
    have HB : Hid (Below w.heap.size w w1) := bw_trans (by repeat (first | exact bw_refl _ | assumption | apply bw_drewN | apply bw_drew | apply bw_alloc | refine bw_set ?_ (by simp) _)) J
    have hz := J.size
    simp at hz
    have hz' : w.heap.size + 2 < w1.heap.size := by omega
    clear hz J
    go_wp2_with fail
    exact bodyPost_ret (v := .agg #[.int .i64 0, .int .i64 0]) (by simp [results, Tryd.results23, go_sem, hc]) rfl ⟨rfl, by repeat (first | with_reducible exact HB.out | with_reducible refine bw_set ?_ (by dsimp only; omega) _)⟩
  · go_enter Tryd.func23, Tryd.ntmps23
    go_wp2_with fail
    refine (sSeg_any _ _ _ _ _).mono ?_
    rw [gs]
    rintro e w1 ⟨rfl, J⟩
    obtain ⟨hc, hf⟩ := bcell J
    go_wp2_with fail
    refine (sPt_any _ _ _).mono ?_
    rw [gp]
    rintro e w1 ⟨rfl, J2⟩
    replace J := bw_trans J J2
    clear hc hf J2
    obtain ⟨hc, hf⟩ := bcell J
    have HB : Hid (Below w.heap.size w w1) := bw_trans (by repeat (first | exact bw_refl _ | assumption | apply bw_drewN | apply bw_drew | apply bw_alloc | refine bw_set ?_ (by simp) _)) J
    have hz := J.size
    simp at hz
    have hz' : w.heap.size + 2 < w1.heap.size := by omega
    clear hz J
    go_wp2_with fail
    exact bodyPost_ret (v := .agg #[.int .i64 0, .int .i64 0]) (by simp [results, Tryd.results23, go_sem, hc]) rfl ⟨rfl, by repeat (first | with_reducible exact HB.out | with_reducible refine bw_set ?_ (by dsimp only; omega) _)⟩
set_option maxHeartbeats 1000000 in
theorem sFar_any (ax ay bx b_y px py : Int) (w : World) :
    Calls Tryd.prog 23 #[.agg #[.int .i64 ax, .int .i64 ay, .int .i64 bx, .int .i64 b_y], .agg #[.int .i64 px, .int .i64 py]] w fun e w' => e = .returned (.agg #[.int .i64 (farV ax ay bx b_y px py).1, .int .i64 (farV ax ay bx b_y px py).2]) ∧ Below w.heap.size w w' := by
  cases gs : sgB ax ay bx b_y
  · have e : farV ax ay bx b_y px py = (0, 0) := by unfold farV; rw [gs]; rfl
    rw [e]; exact sFar_no _ _ _ _ _ _ w (.inl gs)
  · cases gp : ptB px py
    · have e : farV ax ay bx b_y px py = (0, 0) := by unfold farV; rw [gs, gp]; rfl
      rw [e]; exact sFar_no _ _ _ _ _ _ w (.inr ⟨gs, gp⟩)
    · rw [farV_ok gs gp]
      go_enter Tryd.func23, Tryd.ntmps23
      go_wp2_with fail
      refine (sSeg_any _ _ _ _ _).mono ?_
      rw [gs]
      rintro e w1 ⟨rfl, J⟩
      obtain ⟨hc, hf⟩ := bcell J
      go_wp2_with fail
      refine (sPt_any _ _ _).mono ?_
      rw [gp]
      rintro e w1 ⟨rfl, J2⟩
      replace J := bw_trans J J2
      clear hc hf J2
      obtain ⟨hc, hf⟩ := bcell J
      go_wp2_with fail
      refine (sFar_ok _ _ _ _ _ _ _ gs gp).mono ?_
      rintro e w1 ⟨rfl, J2⟩
      replace J := bw_trans J J2
      clear hc hf J2
      obtain ⟨hc, hf⟩ := bcell J
      have HB : Hid (Below w.heap.size w w1) := bw_trans (by repeat (first | exact bw_refl _ | assumption | apply bw_drewN | apply bw_drew | apply bw_alloc | refine bw_set ?_ (by simp) _)) J
      have hz := J.size
      simp at hz
      have hz' : w.heap.size + 2 < w1.heap.size := by omega
      clear hz J
      go_wp2_with fail
      exact bodyPost_ret (v := .agg #[.int .i64 (far ax ay bx b_y px py).1, .int .i64 (far ax ay bx b_y px py).2]) (by simp [results, Tryd.results23, go_sem, hc]) rfl ⟨rfl, by repeat (first | with_reducible exact HB.out | with_reducible refine bw_set ?_ (by dsimp only; omega) _)⟩
end Go.Proofs.YtmjbfocghlhecaaDoor
