/-
  OUR OWN TEXT. How far a point is from a segment: the program's and the specification's, by contract, at every argument; the one condition: errNoFrac holds a pointer to an errors.errorString.
-/
import Derived.Test.YtmjbfocghlhecaaDoorCmp
import Derived.Test.YtmjbfocghlhecaaDoorSHas
import Derived.Test.YtmjbfocghlhecaaDoorCells
namespace Go.Proofs.YtmjbfocghlhecaaDoor
open Go.RowKit Go.Sort

theorem square_ok (ax ay bx b_y : Int) (w : World) (ha : ptB ax ay = true) (hb : ptB bx b_y = true) :
    Calls Tryd.prog 71 #[.agg #[.int .i64 ax, .int .i64 ay], .agg #[.int .i64 bx, .int .i64 b_y]] w fun e w' => e = .returned (.int .i64 (dt ax ay bx b_y bx b_y)) ∧ Below w.heap.size w w' := by
  go_enter Tryd.func71, Tryd.ntmps71
  go_wp2_with fail
  refine (along_any _ _ _ _ _ _ _ ha hb hb).mono ?_
  rintro e w1 ⟨rfl, J⟩
  obtain ⟨hc, hf⟩ := bcell J
  go_wp2_with fail
  go_ret
  exact ⟨rfl, bw_trans (by repeat (first | exact bw_refl _ | assumption | apply bw_drewN | apply bw_drew | apply bw_alloc | refine bw_set ?_ (by simp) _)) J⟩
theorem grid_any (n d : Int) (ad : Addr) (w : World) (hs : Sent ad w) :
    Calls Tryd.prog 57 #[.int .i64 n, .int .i64 d] w fun e w' => e = .returned (.agg #[.int .i64 (ofN n d), .int .i64 (ofD n d)]) ∧ Below w.heap.size w w' := by
  have b0 : Below w.heap.size w (w.alloc (.cells #[.int .i64 0, .int .i64 0] 34)) := bw_alloc (bw_refl _) _
  go_enter Tryd.func57, Tryd.ntmps57
  go_wp2_with fail
  refine (fracOf_any _ _ ad _ (hs.below b0)).mono ?_
  rintro e w1 ⟨rfl, J⟩
  obtain ⟨hc, hf⟩ := bcell J
  have HB : Hid (Below w.heap.size w w1) := bw_trans (by repeat (first | exact bw_refl _ | assumption | apply bw_drewN | apply bw_drew | apply bw_alloc | refine bw_set ?_ (by simp) _)) J
  have F := keep J (heap_new _ _)
  have hz' := blk_lt F
  have F2 : (((w1.setCell ⟨w.heap.size, 0, none⟩ (.int .i64 (ofN n d))).setCell ⟨w.heap.size, 1, none⟩ (.int .i64 (ofD n d))).alloc (.cells #[.int .i64 (ofN n d), .int .i64 (ofD n d)] 34)).heap[w.heap.size]? = some (.cells #[.int .i64 (ofN n d), .int .i64 (ofD n d)] 34 (0, 0)) := (heap_old _ _ (by simpa [World.setCell] using hz')).trans (setF2 F)
  obtain ⟨r0, r1⟩ := blk_2 F2
  clear J F F2
  go_wp2_with fail
  exact bodyPost_ret (v := .agg #[.int .i64 (ofN n d), .int .i64 (ofD n d)]) (by simp [results, Tryd.results57, go_sem, r0, r1]) rfl ⟨rfl, by repeat (first | with_reducible exact HB.out | with_reducible refine bw_alloc ?_ _ | with_reducible refine bw_set ?_ (by dsimp only; omega) _)⟩
theorem of_one (n : Int) (h : 0 ≤ n) (h2 : n ≤ 99999) : ofN n 1 = n ∧ ofD n 1 = 1 := by
  have hi : inB n 1 = true := (inB_iff n 1).2 ⟨h, h2, by omega, by omega⟩
  unfold ofN ofD
  rw [hi, G_one]
  exact ⟨by simp, by simp⟩
theorem grid_one (n : Int) (h : 0 ≤ n) (h2 : n ≤ 99999) (ad : Addr) (w : World) (hs : Sent ad w) :
    Calls Tryd.prog 57 #[.int .i64 n, .int .i64 1] w fun e w' => e = .returned (.agg #[.int .i64 n, .int .i64 1]) ∧ Below w.heap.size w w' := by
  obtain ⟨e1, e2⟩ := of_one n h h2
  have := grid_any n 1 ad w hs
  rwa [e1, e2] at this
set_option maxHeartbeats 400000 in
theorem farFirst_ok (ax ay bx b_y px py : Int) (ad : Addr) (w : World) (h0 : Sent ad w) (gs : sgB ax ay bx b_y = true) (gp : ptB px py = true) :
    Calls Tryd.prog 46 #[.agg #[.int .i64 ax, .int .i64 ay, .int .i64 bx, .int .i64 b_y], .agg #[.int .i64 px, .int .i64 py]] w fun e w' => e = .returned (.agg #[.int .i64 (dt ax ay px py px py), .int .i64 1]) ∧ Below w.heap.size w w' := by
  obtain ⟨ha, hb, _⟩ := sg_parts gs
  have d1 := dt_self_nonneg ax ay px py
  have d2 := dt_bd ha gp gp
  have b0 : Below w.heap.size w (((w.alloc (.cells #[.int .i64 ax, .int .i64 ay, .int .i64 bx, .int .i64 b_y] 26)).alloc (.cells #[.int .i64 px, .int .i64 py] 24)).alloc (.cells #[.int .i64 0, .int .i64 0] 34)) := (by repeat (first | exact bw_refl _ | assumption | apply bw_drewN | apply bw_drew | apply bw_alloc | refine bw_set ?_ (by simp) _))
  go_enter Tryd.func46, Tryd.ntmps46
  go_wp2_with fail
  refine (square_ok _ _ _ _ _ ha gp).mono ?_
  rintro e w1 ⟨rfl, J⟩
  obtain ⟨hc, hf⟩ := bcell J
  go_wp2_with fail
  refine (grid_one _ d1 (by omega) ad _ (h0.below (bw_trans b0 J))).mono ?_
  rintro e w1 ⟨rfl, J2⟩
  replace J := bw_trans J J2
  clear hc hf J2
  obtain ⟨hc, hf⟩ := bcell J
  have HB : Hid (Below w.heap.size w w1) := bw_trans (by repeat (first | exact bw_refl _ | assumption | apply bw_drewN | apply bw_drew | apply bw_alloc | refine bw_set ?_ (by simp) _)) J
  have hz := J.size
  simp at hz
  have hz' : w.heap.size + 2 < w1.heap.size := by omega
  clear hz J
  go_wp2_with fail
  exact bodyPost_ret (v := .agg #[.int .i64 (dt ax ay px py px py), .int .i64 1]) (by simp [results, Tryd.results46, go_sem, hc]) rfl ⟨rfl, by repeat (first | with_reducible exact HB.out | refine bw_set ?_ (by dsimp only; omega) _)⟩
set_option maxHeartbeats 400000 in
theorem farLast_ok (ax ay bx b_y px py : Int) (ad : Addr) (w : World) (h0 : Sent ad w) (gs : sgB ax ay bx b_y = true) (gp : ptB px py = true) :
    Calls Tryd.prog 48 #[.agg #[.int .i64 ax, .int .i64 ay, .int .i64 bx, .int .i64 b_y], .agg #[.int .i64 px, .int .i64 py]] w fun e w' => e = .returned (.agg #[.int .i64 (dt bx b_y px py px py), .int .i64 1]) ∧ Below w.heap.size w w' := by
  obtain ⟨ha, hb, _⟩ := sg_parts gs
  have d1 := dt_self_nonneg bx b_y px py
  have d2 := dt_bd hb gp gp
  have b0 : Below w.heap.size w (((w.alloc (.cells #[.int .i64 ax, .int .i64 ay, .int .i64 bx, .int .i64 b_y] 26)).alloc (.cells #[.int .i64 px, .int .i64 py] 24)).alloc (.cells #[.int .i64 0, .int .i64 0] 34)) := (by repeat (first | exact bw_refl _ | assumption | apply bw_drewN | apply bw_drew | apply bw_alloc | refine bw_set ?_ (by simp) _))
  go_enter Tryd.func48, Tryd.ntmps48
  go_wp2_with fail
  refine (square_ok _ _ _ _ _ hb gp).mono ?_
  rintro e w1 ⟨rfl, J⟩
  obtain ⟨hc, hf⟩ := bcell J
  go_wp2_with fail
  refine (grid_one _ d1 (by omega) ad _ (h0.below (bw_trans b0 J))).mono ?_
  rintro e w1 ⟨rfl, J2⟩
  replace J := bw_trans J J2
  clear hc hf J2
  obtain ⟨hc, hf⟩ := bcell J
  have HB : Hid (Below w.heap.size w w1) := bw_trans (by repeat (first | exact bw_refl _ | assumption | apply bw_drewN | apply bw_drew | apply bw_alloc | refine bw_set ?_ (by simp) _)) J
  have hz := J.size
  simp at hz
  have hz' : w.heap.size + 2 < w1.heap.size := by omega
  clear hz J
  go_wp2_with fail
  exact bodyPost_ret (v := .agg #[.int .i64 (dt bx b_y px py px py), .int .i64 1]) (by simp [results, Tryd.results48, go_sem, hc]) rfl ⟨rfl, by repeat (first | with_reducible exact HB.out | refine bw_set ?_ (by dsimp only; omega) _)⟩
set_option maxHeartbeats 400000 in
theorem farLine_ok (ax ay bx b_y px py : Int) (ad : Addr) (w : World) (h0 : Sent ad w) (gs : sgB ax ay bx b_y = true) (gp : ptB px py = true) :
    Calls Tryd.prog 47 #[.agg #[.int .i64 ax, .int .i64 ay, .int .i64 bx, .int .i64 b_y], .agg #[.int .i64 px, .int .i64 py]] w fun e w' => e = .returned (.agg #[.int .i64 (ofN (crs ax ay bx b_y px py * crs ax ay bx b_y px py) (dt ax ay bx b_y bx b_y)), .int .i64 (ofD (crs ax ay bx b_y px py * crs ax ay bx b_y px py) (dt ax ay bx b_y bx b_y))]) ∧ Below w.heap.size w w' := by
  obtain ⟨ha, hb, _⟩ := sg_parts gs
  have d1 := crs_bd ha hb gp
  have d2 := prod_bd2 d1.1 d1.2 d1.1 d1.2
  have b0 : Below w.heap.size w (((w.alloc (.cells #[.int .i64 ax, .int .i64 ay, .int .i64 bx, .int .i64 b_y] 26)).alloc (.cells #[.int .i64 px, .int .i64 py] 24)).alloc (.cells #[.int .i64 0, .int .i64 0] 34)) := (by repeat (first | exact bw_refl _ | assumption | apply bw_drewN | apply bw_drew | apply bw_alloc | refine bw_set ?_ (by simp) _))
  go_enter Tryd.func47, Tryd.ntmps47
  go_wp2_with fail
  refine (swept_any _ _ _ _ _ _ _ ha hb gp).mono ?_
  rintro e w1 ⟨rfl, J⟩
  obtain ⟨hc, hf⟩ := bcell J
  go_wp2_with fail
  refine (square_ok _ _ _ _ _ ha hb).mono ?_
  rintro e w1 ⟨rfl, J2⟩
  replace J := bw_trans J J2
  clear hc hf J2
  obtain ⟨hc, hf⟩ := bcell J
  go_wp2_with fail
  refine (grid_any _ _ ad _ (h0.below (bw_trans b0 J))).mono ?_
  rintro e w1 ⟨rfl, J2⟩
  replace J := bw_trans J J2
  clear hc hf J2
  obtain ⟨hc, hf⟩ := bcell J
  have HB : Hid (Below w.heap.size w w1) := bw_trans (by repeat (first | exact bw_refl _ | assumption | apply bw_drewN | apply bw_drew | apply bw_alloc | refine bw_set ?_ (by simp) _)) J
  have hz := J.size
  simp at hz
  have hz' : w.heap.size + 2 < w1.heap.size := by omega
  clear hz J
  go_wp2_with fail
  exact bodyPost_ret (v := .agg #[.int .i64 (ofN (crs ax ay bx b_y px py * crs ax ay bx b_y px py) (dt ax ay bx b_y bx b_y)), .int .i64 (ofD (crs ax ay bx b_y px py * crs ax ay bx b_y px py) (dt ax ay bx b_y bx b_y))]) (by simp [results, Tryd.results47, go_sem, hc]) rfl ⟨rfl, by repeat (first | with_reducible exact HB.out | refine bw_set ?_ (by dsimp only; omega) _)⟩
theorem where_first (ax ay bx b_y px py : Int) (w : World) (gs : sgB ax ay bx b_y = true) (gp : ptB px py = true) (h : dt ax ay bx b_y px py ≤ 0) :
    Calls Tryd.prog 49 #[.agg #[.int .i64 ax, .int .i64 ay, .int .i64 bx, .int .i64 b_y], .agg #[.int .i64 px, .int .i64 py]] w fun e w' => e = .returned (.int .i64 0) ∧ Below w.heap.size w w' := by
  obtain ⟨ha, hb, _⟩ := sg_parts gs
  go_enter Tryd.func49, Tryd.ntmps49
  go_wp2_with fail
  refine (along_any _ _ _ _ _ _ _ ha hb gp).mono ?_
  rintro e w1 ⟨rfl, J⟩
  obtain ⟨hc, hf⟩ := bcell J
  go_wp2_with fail
  go_ret
  exact ⟨rfl, bw_trans (by repeat (first | exact bw_refl _ | assumption | apply bw_drewN | apply bw_drew | apply bw_alloc | refine bw_set ?_ (by simp) _)) J⟩
theorem where_last (ax ay bx b_y px py : Int) (w : World) (gs : sgB ax ay bx b_y = true) (gp : ptB px py = true) (h : ¬ dt ax ay bx b_y px py ≤ 0) (h2 : dt bx b_y ax ay px py ≤ 0) :
    Calls Tryd.prog 49 #[.agg #[.int .i64 ax, .int .i64 ay, .int .i64 bx, .int .i64 b_y], .agg #[.int .i64 px, .int .i64 py]] w fun e w' => e = .returned (.int .i64 2) ∧ Below w.heap.size w w' := by
  obtain ⟨ha, hb, _⟩ := sg_parts gs
  have h' : 0 < dt ax ay bx b_y px py := by omega
  clear h
  go_enter Tryd.func49, Tryd.ntmps49
  go_wp2_with fail
  refine (along_any _ _ _ _ _ _ _ ha hb gp).mono ?_
  rintro e w1 ⟨rfl, J⟩
  obtain ⟨hc, hf⟩ := bcell J
  go_wp2_with fail
  refine (along_any _ _ _ _ _ _ _ hb ha gp).mono ?_
  rintro e w1 ⟨rfl, J2⟩
  replace J := bw_trans J J2
  clear hc hf J2
  obtain ⟨hc, hf⟩ := bcell J
  go_wp2_with fail
  go_ret
  exact ⟨rfl, bw_trans (by repeat (first | exact bw_refl _ | assumption | apply bw_drewN | apply bw_drew | apply bw_alloc | refine bw_set ?_ (by simp) _)) J⟩
theorem where_line (ax ay bx b_y px py : Int) (w : World) (gs : sgB ax ay bx b_y = true) (gp : ptB px py = true) (h : ¬ dt ax ay bx b_y px py ≤ 0) (h2 : ¬ dt bx b_y ax ay px py ≤ 0) :
    Calls Tryd.prog 49 #[.agg #[.int .i64 ax, .int .i64 ay, .int .i64 bx, .int .i64 b_y], .agg #[.int .i64 px, .int .i64 py]] w fun e w' => e = .returned (.int .i64 1) ∧ Below w.heap.size w w' := by
  obtain ⟨ha, hb, _⟩ := sg_parts gs
  have h' : 0 < dt ax ay bx b_y px py := by omega
  have h2' : 0 < dt bx b_y ax ay px py := by omega
  clear h h2
  go_enter Tryd.func49, Tryd.ntmps49
  go_wp2_with fail
  refine (along_any _ _ _ _ _ _ _ ha hb gp).mono ?_
  rintro e w1 ⟨rfl, J⟩
  obtain ⟨hc, hf⟩ := bcell J
  go_wp2_with fail
  refine (along_any _ _ _ _ _ _ _ hb ha gp).mono ?_
  rintro e w1 ⟨rfl, J2⟩
  replace J := bw_trans J J2
  clear hc hf J2
  obtain ⟨hc, hf⟩ := bcell J
  go_wp2_with fail
  go_ret
  exact ⟨rfl, bw_trans (by repeat (first | exact bw_refl _ | assumption | apply bw_drewN | apply bw_drew | apply bw_alloc | refine bw_set ?_ (by simp) _)) J⟩
end Go.Proofs.YtmjbfocghlhecaaDoor
