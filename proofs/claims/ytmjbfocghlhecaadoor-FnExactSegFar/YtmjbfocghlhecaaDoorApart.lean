/-
  OUR OWN TEXT. How far two segments are apart: the program's and the specification's, by contract, at every argument; the one condition: errNoFrac holds a pointer to an errors.errorString.
-/
import Derived.Test.YtmjbfocghlhecaaDoorFarAny
import Derived.Test.YtmjbfocghlhecaaDoorLeast
namespace Go.Proofs.YtmjbfocghlhecaaDoor
open Go.RowKit Go.Sort

/-- How far apart, at whatever arguments. -/
def apartV (ax ay bx b_y cx cy ex ey : Int) : Int × Int := if sgB ax ay bx b_y && sgB cx cy ex ey then apart ax ay bx b_y cx cy ex ey else (0, 0)
theorem apartV_ok {ax ay bx b_y cx cy ex ey : Int} (gs : sgB ax ay bx b_y = true) (gt : sgB cx cy ex ey = true) : apartV ax ay bx b_y cx cy ex ey = apart ax ay bx b_y cx cy ex ey := by unfold apartV; rw [gs, gt]; rfl
set_option maxHeartbeats 1000000 in
theorem segApart_no (ax ay bx b_y cx cy ex ey : Int) (w : World) (h : sgB ax ay bx b_y = false ∨ (sgB ax ay bx b_y = true ∧ sgB cx cy ex ey = false)) :
    Calls Tryd.prog 27 #[.agg #[.int .i64 ax, .int .i64 ay, .int .i64 bx, .int .i64 b_y], .agg #[.int .i64 cx, .int .i64 cy, .int .i64 ex, .int .i64 ey]] w fun e w' => e = .returned (.agg #[.int .i64 0, .int .i64 0]) ∧ Below w.heap.size w w' := by
  rcases h with gs | ⟨gs, gt⟩
  · go_enter Tryd.func27, Tryd.ntmps27
    go_wp2_with fail
    refine (segOk_any _ _ _ _ _).mono ?_
    rw [gs]
    rintro e w1 ⟨rfl, J⟩
    obtain ⟨hc, hf⟩ := bcell J
    have HB : Hid (Below w.heap.size w w1) := bw_trans (by repeat (first | exact bw_refl _ | assumption | apply bw_drewN | apply bw_drew | apply bw_alloc | refine bw_set ?_ (by simp) _)) J
    have hz := J.size
    simp at hz
    have hz' : w.heap.size + 2 < w1.heap.size := by omega
    clear hz J
    go_wp2_with fail
    exact bodyPost_ret (v := .agg #[.int .i64 0, .int .i64 0]) (by simp [results, Tryd.results27, go_sem, hc]) rfl ⟨rfl, by repeat (first | with_reducible exact HB.out | with_reducible refine bw_set ?_ (by dsimp only; omega) _)⟩
  · go_enter Tryd.func27, Tryd.ntmps27
    go_wp2_with fail
    refine (segOk_any _ _ _ _ _).mono ?_
    rw [gs]
    rintro e w1 ⟨rfl, J⟩
    obtain ⟨hc, hf⟩ := bcell J
    go_wp2_with fail
    refine (segOk_any _ _ _ _ _).mono ?_
    rw [gt]
    rintro e w1 ⟨rfl, J2⟩
    replace J := bw_trans J J2
    clear hc hf J2
    obtain ⟨hc, hf⟩ := bcell J
    have HB : Hid (Below w.heap.size w w1) := bw_trans (by repeat (first | exact bw_refl _ | assumption | apply bw_drewN | apply bw_drew | apply bw_alloc | refine bw_set ?_ (by simp) _)) J
    have hz := J.size
    simp at hz
    have hz' : w.heap.size + 2 < w1.heap.size := by omega
    clear hz J
    go_wp2_with fail
    exact bodyPost_ret (v := .agg #[.int .i64 0, .int .i64 0]) (by simp [results, Tryd.results27, go_sem, hc]) rfl ⟨rfl, by repeat (first | with_reducible exact HB.out | with_reducible refine bw_set ?_ (by dsimp only; omega) _)⟩
set_option maxHeartbeats 1000000 in
theorem segApart_meet (ax ay bx b_y cx cy ex ey : Int) (ad : Addr) (w : World) (h0 : Sent ad w) (gs : sgB ax ay bx b_y = true) (gt : sgB cx cy ex ey = true) (hm : meetC ax ay bx b_y cx cy ex ey = true) :
    Calls Tryd.prog 27 #[.agg #[.int .i64 ax, .int .i64 ay, .int .i64 bx, .int .i64 b_y], .agg #[.int .i64 cx, .int .i64 cy, .int .i64 ex, .int .i64 ey]] w fun e w' => e = .returned (.agg #[.int .i64 0, .int .i64 1]) ∧ Below w.heap.size w w' := by
  have b0 : Below w.heap.size w (((w.alloc (.cells #[.int .i64 ax, .int .i64 ay, .int .i64 bx, .int .i64 b_y] 26)).alloc (.cells #[.int .i64 cx, .int .i64 cy, .int .i64 ex, .int .i64 ey] 26)).alloc (.cells #[.int .i64 0, .int .i64 0] 34)) := (by repeat (first | exact bw_refl _ | assumption | apply bw_drewN | apply bw_drew | apply bw_alloc | refine bw_set ?_ (by simp) _))
  go_enter Tryd.func27, Tryd.ntmps27
  go_wp2_with fail
  refine (segOk_any _ _ _ _ _).mono ?_
  rw [gs]
  rintro e w1 ⟨rfl, J⟩
  obtain ⟨hc, hf⟩ := bcell J
  go_wp2_with fail
  refine (segOk_any _ _ _ _ _).mono ?_
  rw [gt]
  rintro e w1 ⟨rfl, J2⟩
  replace J := bw_trans J J2
  clear hc hf J2
  obtain ⟨hc, hf⟩ := bcell J
  go_wp2_with fail
  refine (meet_ok _ _ _ _ _ _ _ _ _ gs gt).mono ?_
  rw [hm]
  rintro e w1 ⟨rfl, J2⟩
  replace J := bw_trans J J2
  clear hc hf J2
  obtain ⟨hc, hf⟩ := bcell J
  go_wp2_with fail
  refine (grid_one 0 (by decide) (by decide) ad _ (h0.below (bw_trans b0 J))).mono ?_
  rintro e w1 ⟨rfl, J2⟩
  replace J := bw_trans J J2
  clear hc hf J2
  obtain ⟨hc, hf⟩ := bcell J
  have HB : Hid (Below w.heap.size w w1) := bw_trans (by repeat (first | exact bw_refl _ | assumption | apply bw_drewN | apply bw_drew | apply bw_alloc | refine bw_set ?_ (by simp) _)) J
  have hz := J.size
  simp at hz
  have hz' : w.heap.size + 2 < w1.heap.size := by omega
  clear hz J
  go_wp2_with fail
  exact bodyPost_ret (v := .agg #[.int .i64 0, .int .i64 1]) (by simp [results, Tryd.results27, go_sem, hc]) rfl ⟨rfl, by repeat (first | with_reducible exact HB.out | with_reducible refine bw_set ?_ (by dsimp only; omega) _)⟩
set_option maxHeartbeats 4000000 in
theorem segApart_far (ax ay bx b_y cx cy ex ey : Int) (ad : Addr) (w : World) (h0 : Sent ad w) (gs : sgB ax ay bx b_y = true) (gt : sgB cx cy ex ey = true) (hm : meetC ax ay bx b_y cx cy ex ey = false) :
    Calls Tryd.prog 27 #[.agg #[.int .i64 ax, .int .i64 ay, .int .i64 bx, .int .i64 b_y], .agg #[.int .i64 cx, .int .i64 cy, .int .i64 ex, .int .i64 ey]] w fun e w' => e = .returned (.agg #[.int .i64 (mnA (far ax ay bx b_y cx cy) (far ax ay bx b_y ex ey) (far cx cy ex ey ax ay) (far cx cy ex ey bx b_y)).1, .int .i64 (mnA (far ax ay bx b_y cx cy) (far ax ay bx b_y ex ey) (far cx cy ex ey ax ay) (far cx cy ex ey bx b_y)).2]) ∧ Below w.heap.size w w' := by
  obtain ⟨pa, pb, _⟩ := sg_parts gs
  obtain ⟨pc, pd, _⟩ := sg_parts gt
  obtain ⟨o1, o2, o3, o4⟩ := four_ok gs gt
  obtain ⟨W, hW, BW, SB, TB, RB⟩ := boxes3 w (.cells #[.int .i64 ax, .int .i64 ay, .int .i64 bx, .int .i64 b_y] 26) (.cells #[.int .i64 cx, .int .i64 cy, .int .i64 ex, .int .i64 ey] 26) (.cells #[.int .i64 0, .int .i64 0] 34)
  have FA0 : Hid (∀ w, Sent ad w → Calls Tryd.prog 20 #[.agg #[.int .i64 ax, .int .i64 ay, .int .i64 bx, .int .i64 b_y], .agg #[.int .i64 cx, .int .i64 cy]] w fun e w' => e = .returned (.agg #[.int .i64 (far ax ay bx b_y cx cy).1, .int .i64 (far ax ay bx b_y cx cy).2]) ∧ Below w.heap.size w w') := fun w hs => segFar_ok ax ay bx b_y cx cy ad w hs gs pc
  have FA1 : Hid (∀ w, Sent ad w → Calls Tryd.prog 20 #[.agg #[.int .i64 ax, .int .i64 ay, .int .i64 bx, .int .i64 b_y], .agg #[.int .i64 ex, .int .i64 ey]] w fun e w' => e = .returned (.agg #[.int .i64 (far ax ay bx b_y ex ey).1, .int .i64 (far ax ay bx b_y ex ey).2]) ∧ Below w.heap.size w w') := fun w hs => segFar_ok ax ay bx b_y ex ey ad w hs gs pd
  have FA2 : Hid (∀ w, Sent ad w → Calls Tryd.prog 20 #[.agg #[.int .i64 cx, .int .i64 cy, .int .i64 ex, .int .i64 ey], .agg #[.int .i64 ax, .int .i64 ay]] w fun e w' => e = .returned (.agg #[.int .i64 (far cx cy ex ey ax ay).1, .int .i64 (far cx cy ex ey ax ay).2]) ∧ Below w.heap.size w w') := fun w hs => segFar_ok cx cy ex ey ax ay ad w hs gt pa
  have FA3 : Hid (∀ w, Sent ad w → Calls Tryd.prog 20 #[.agg #[.int .i64 cx, .int .i64 cy, .int .i64 ex, .int .i64 ey], .agg #[.int .i64 bx, .int .i64 b_y]] w fun e w' => e = .returned (.agg #[.int .i64 (far cx cy ex ey bx b_y).1, .int .i64 (far cx cy ex ey bx b_y).2]) ∧ Below w.heap.size w w') := fun w hs => segFar_ok cx cy ex ey bx b_y ad w hs gt pb
  go_enter Tryd.func27, Tryd.ntmps27
  go_wp2_with fail
  refine (segOk_any _ _ _ _ _).mono ?_
  rw [gs]
  rintro e w1 ⟨rfl, J⟩
  obtain ⟨hc, hf⟩ := bcell J
  go_wp2_with fail
  refine (segOk_any _ _ _ _ _).mono ?_
  rw [gt]
  rintro e w1 ⟨rfl, J2⟩
  replace J := bw_trans J J2
  clear hc hf J2
  obtain ⟨hc, hf⟩ := bcell J
  go_wp2_with fail
  refine (meet_ok _ _ _ _ _ _ _ _ _ gs gt).mono ?_
  rw [hm]
  rintro e w1 ⟨rfl, J2⟩
  replace J := bw_trans J J2
  clear hc hf J2
  obtain ⟨hc, hf⟩ := bcell J
  go_upto_region 5 with fail
  rw [← hW] at J
  replace SB := keep J SB
  replace TB := keep J TB
  replace RB := keep J RB
  have zr := blk_lt RB
  have H := (bw_trans BW J).drew
  have hS0 : (fun w' => w'.cell? ⟨w.heap.size, 0, none⟩ = some (.int .i64 ax) ∧ w'.cell? ⟨w.heap.size, 1, none⟩ = some (.int .i64 ay) ∧ w'.cell? ⟨w.heap.size, 2, none⟩ = some (.int .i64 bx) ∧ w'.cell? ⟨w.heap.size, 3, none⟩ = some (.int .i64 b_y) ∧ w'.cell? ⟨w.heap.size + 1, 0, none⟩ = some (.int .i64 cx) ∧ w'.cell? ⟨w.heap.size + 1, 1, none⟩ = some (.int .i64 cy) ∧ w'.cell? ⟨w.heap.size + 1, 2, none⟩ = some (.int .i64 ex) ∧ w'.cell? ⟨w.heap.size + 1, 3, none⟩ = some (.int .i64 ey)) w1 := by
    obtain ⟨s0, s1, s2, s3⟩ := blk_4 SB
    obtain ⟨t0, t1, t2, t3⟩ := blk_4 TB
    exact ⟨s0, s1, s2, s3, t0, t1, t2, t3⟩
  clear hW hc hf J SB TB BW
  replace RB : w1.drew.heap[w.heap.size + 2]? = _ := RB
  have HS : Sent ad w1.drew := h0.below H
  clear h0 gs gt hm pa pb pc pd
  go_region_held3 (fun w' => w'.cell? ⟨w.heap.size, 0, none⟩ = some (.int .i64 ax) ∧ w'.cell? ⟨w.heap.size, 1, none⟩ = some (.int .i64 ay) ∧ w'.cell? ⟨w.heap.size, 2, none⟩ = some (.int .i64 bx) ∧ w'.cell? ⟨w.heap.size, 3, none⟩ = some (.int .i64 b_y) ∧ w'.cell? ⟨w.heap.size + 1, 0, none⟩ = some (.int .i64 cx) ∧ w'.cell? ⟨w.heap.size + 1, 1, none⟩ = some (.int .i64 cy) ∧ w'.cell? ⟨w.heap.size + 1, 2, none⟩ = some (.int .i64 ex) ∧ w'.cell? ⟨w.heap.size + 1, 3, none⟩ = some (.int .i64 ey)) (first | with_reducible exact cB8 K (by assumption) | with_reducible exact cA8 (by assumption) | exact hS0 | exact cS8 (by assumption) (by dsimp only; omega) (by dsimp only; omega) (by dsimp only; omega) (by dsimp only; omega) (by dsimp only; omega) (by dsimp only; omega) (by dsimp only; omega) (by dsimp only; omega)) (first | (go_at_call 20; refine (FA0.out _ HS).mono ?_; clear FA0; rintro e v0 ⟨rfl, K⟩; replace HS := HS.below K; replace H := bw_trans H K; replace RB := keep K RB) | (go_at_call 20; refine (FA1.out _ HS).mono ?_; clear FA1; rintro e v1 ⟨rfl, K⟩; replace HS := HS.below K; replace H := bw_trans H K; replace RB := keep K RB) | (go_at_call 20; refine (FA2.out _ HS).mono ?_; clear FA2; rintro e v2 ⟨rfl, K⟩; replace HS := HS.below K; replace H := bw_trans H K; replace RB := keep K RB) | (go_at_call 20; refine (FA3.out _ HS).mono ?_; clear FA3; rintro e v3 ⟨rfl, K⟩; replace HS := HS.below K; replace H := bw_trans H K; replace RB := keep K RB) | (go_at_call 58; refine (least_ok (far ax ay bx b_y cx cy) (far ax ay bx b_y ex ey) (far cx cy ex ey ax ay) (far cx cy ex ey bx b_y) _ ad _ ?_ o1 o2 o3 o4 ?_).mono ?_; exact HS.below (bw_alloc (bw_refl _) _); exact heap_new _ _; rintro e v4 ⟨rfl, K⟩; replace RB := keep K ((heap_old _ _ (blk_lt RB)).trans RB); replace H := bw_trans (bw_alloc H _) K; obtain ⟨q0, q1, qf0, qf1⟩ := blkF RB))
  have HB : Hid _ := H
  have zz := blk_lt RB
  have R2 := setF2 RB (u0 := .int .i64 (mnA (far ax ay bx b_y cx cy) (far ax ay bx b_y ex ey) (far cx cy ex ey ax ay) (far cx cy ex ey bx b_y)).1) (u1 := .int .i64 (mnA (far ax ay bx b_y cx cy) (far ax ay bx b_y ex ey) (far cx cy ex ey ax ay) (far cx cy ex ey bx b_y)).2)
  obtain ⟨r0, r1⟩ := blk_2 R2
  clear H RB R2
  go_wp2_with fail
  exact bodyPost_ret (v := .agg #[.int .i64 (mnA (far ax ay bx b_y cx cy) (far ax ay bx b_y ex ey) (far cx cy ex ey ax ay) (far cx cy ex ey bx b_y)).1, .int .i64 (mnA (far ax ay bx b_y cx cy) (far ax ay bx b_y ex ey) (far cx cy ex ey ax ay) (far cx cy ex ey bx b_y)).2]) (by simp [results, Tryd.results27, go_sem, r0, r1]) rfl ⟨rfl, by repeat (first | with_reducible exact HB.out | with_reducible refine bw_set ?_ (by dsimp only; omega) _)⟩
theorem segApart_any (ax ay bx b_y cx cy ex ey : Int) (ad : Addr) (w : World) (h0 : Sent ad w) :
    Calls Tryd.prog 27 #[.agg #[.int .i64 ax, .int .i64 ay, .int .i64 bx, .int .i64 b_y], .agg #[.int .i64 cx, .int .i64 cy, .int .i64 ex, .int .i64 ey]] w fun e w' => e = .returned (.agg #[.int .i64 (apartV ax ay bx b_y cx cy ex ey).1, .int .i64 (apartV ax ay bx b_y cx cy ex ey).2]) ∧ Below w.heap.size w w' := by
  cases gs : sgB ax ay bx b_y
  · have e : apartV ax ay bx b_y cx cy ex ey = (0, 0) := by unfold apartV; rw [gs]; rfl
    rw [e]; exact segApart_no _ _ _ _ _ _ _ _ w (.inl gs)
  · cases gt : sgB cx cy ex ey
    · have e : apartV ax ay bx b_y cx cy ex ey = (0, 0) := by unfold apartV; rw [gs, gt]; rfl
      rw [e]; exact segApart_no _ _ _ _ _ _ _ _ w (.inr ⟨gs, gt⟩)
    · rw [apartV_ok gs gt]
      unfold apart
      cases hm : meetC ax ay bx b_y cx cy ex ey
      · exact segApart_far _ _ _ _ _ _ _ _ ad w h0 gs gt hm
      · exact segApart_meet _ _ _ _ _ _ _ _ ad w h0 gs gt hm
theorem segApart_ok (ax ay bx b_y cx cy ex ey : Int) (ad : Addr) (w : World) (h0 : Sent ad w) (gs : sgB ax ay bx b_y = true) (gt : sgB cx cy ex ey = true) :
    Calls Tryd.prog 27 #[.agg #[.int .i64 ax, .int .i64 ay, .int .i64 bx, .int .i64 b_y], .agg #[.int .i64 cx, .int .i64 cy, .int .i64 ex, .int .i64 ey]] w fun e w' => e = .returned (.agg #[.int .i64 (apart ax ay bx b_y cx cy ex ey).1, .int .i64 (apart ax ay bx b_y cx cy ex ey).2]) ∧ Below w.heap.size w w' := by
  rw [← apartV_ok gs gt]; exact segApart_any _ _ _ _ _ _ _ _ ad w h0
end Go.Proofs.YtmjbfocghlhecaaDoor
