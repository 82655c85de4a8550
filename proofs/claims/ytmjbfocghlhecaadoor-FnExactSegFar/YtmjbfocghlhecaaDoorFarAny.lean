/-
  OUR OWN TEXT. SegFar of the program beside and ahead, by contract.
-/
import Derived.Test.YtmjbfocghlhecaaDoorFarSeg
namespace Go.Proofs.YtmjbfocghlhecaaDoor
open Go.RowKit Go.Sort

set_option maxHeartbeats 2000000 in
theorem segFar_last (ax ay bx b_y px py : Int) (ad : Addr) (w : World) (h0 : Sent ad w) (gs : sgB ax ay bx b_y = true) (gp : ptB px py = true) (h : ¬ dt ax ay bx b_y px py ≤ 0) (h2 : dt bx b_y ax ay px py ≤ 0) :
    Calls Tryd.prog 20 #[.agg #[.int .i64 ax, .int .i64 ay, .int .i64 bx, .int .i64 b_y], .agg #[.int .i64 px, .int .i64 py]] w fun e w' => e = .returned (.agg #[.int .i64 (dt bx b_y px py px py), .int .i64 1]) ∧ Below w.heap.size w w' := by
  have b0 : Below w.heap.size w (((w.alloc (.cells #[.int .i64 ax, .int .i64 ay, .int .i64 bx, .int .i64 b_y] 26)).alloc (.cells #[.int .i64 px, .int .i64 py] 24)).alloc (.cells #[.int .i64 0, .int .i64 0] 34)) := (by repeat (first | exact bw_refl _ | assumption | apply bw_drewN | apply bw_drew | apply bw_alloc | refine bw_set ?_ (by simp) _))
  obtain ⟨W, hW, BW, SB, PB, RB⟩ := boxes3 w (.cells #[.int .i64 ax, .int .i64 ay, .int .i64 bx, .int .i64 b_y] 26) (.cells #[.int .i64 px, .int .i64 py] 24) (.cells #[.int .i64 0, .int .i64 0] 34)
  have WH : Hid (∀ w, Calls Tryd.prog 49 #[.agg #[.int .i64 ax, .int .i64 ay, .int .i64 bx, .int .i64 b_y], .agg #[.int .i64 px, .int .i64 py]] w fun e w' => e = .returned (.int .i64 2) ∧ Below w.heap.size w w') := fun w => where_last ax ay bx b_y px py w gs gp h h2
  have FA : Hid (∀ w, Sent ad w → _) := fun w hs => farLast_ok ax ay bx b_y px py ad w hs gs gp
  clear h h2
  go_enter Tryd.func20, Tryd.ntmps20
  go_wp2_with fail
  refine (segOk_any _ _ _ _ _).mono ?_
  rw [gs]
  rintro e w1 ⟨rfl, J⟩
  obtain ⟨hc, hf⟩ := bcell J
  go_wp2_with fail
  refine (ptOk_any _ _ _).mono ?_
  rw [gp]
  rintro e w1 ⟨rfl, J2⟩
  replace J := bw_trans J J2
  clear hc hf J2
  obtain ⟨hc, hf⟩ := bcell J
  go_upto_region 4 with fail
  have FT : Hid (∃ W2, W2 = w1.alloc (.cells #[.func (.func 46) #[] #[], .func (.func 47) #[] #[], .func (.func 48) #[] #[]] 64)) := ⟨_, rfl⟩
  obtain ⟨W2, hW2⟩ := FT.out
  rw [← hW2]
  rw [← hW] at J
  replace SB := keep J SB
  replace PB := keep J PB
  replace RB := keep J RB
  have zr := blk_lt RB
  have nz : w1.heap.size < W2.heap.size := by rw [hW2]; simp
  have A2 := bw_alloc (bw_refl w1) (.cells #[.func (.func 46) #[] #[], .func (.func 47) #[] #[], .func (.func 48) #[] #[]] 64)
  have TB := heap_new w1 (.cells #[.func (.func 46) #[] #[], .func (.func 47) #[] #[], .func (.func 48) #[] #[]] 64)
  rw [← hW2] at A2 TB
  replace SB := keep A2 SB
  replace PB := keep A2 PB
  replace RB := keep A2 RB
  have H := bw_trans BW (bw_trans J A2)
  have hS0 : (fun w' => w'.cell? ⟨w.heap.size, 0, none⟩ = some (.int .i64 ax) ∧ w'.cell? ⟨w.heap.size, 1, none⟩ = some (.int .i64 ay) ∧ w'.cell? ⟨w.heap.size, 2, none⟩ = some (.int .i64 bx) ∧ w'.cell? ⟨w.heap.size, 3, none⟩ = some (.int .i64 b_y) ∧ w'.cell? ⟨w.heap.size + 1, 0, none⟩ = some (.int .i64 px) ∧ w'.cell? ⟨w.heap.size + 1, 1, none⟩ = some (.int .i64 py) ∧ w'.cell? ⟨w1.heap.size, 0, none⟩ = some (.func (.func 46) #[] #[]) ∧ w'.cell? ⟨w1.heap.size, 1, none⟩ = some (.func (.func 47) #[] #[]) ∧ w'.cell? ⟨w1.heap.size, 2, none⟩ = some (.func (.func 48) #[] #[])) W2 := by
    obtain ⟨s0, s1, s2, s3⟩ := blk_4 SB
    obtain ⟨p0, p1⟩ := blk_2 PB
    obtain ⟨t0, t1, t2⟩ := blk_3 TB
    exact ⟨s0, s1, s2, s3, p0, p1, t0, t1, t2⟩
  clear hW hc hf J A2 SB PB TB BW b0 FT hW2
  have hsD : Sent ad W2.drew := h0.below H.drew
  replace H := H.drew
  replace RB : W2.drew.heap[w.heap.size + 2]? = _ := RB
  go_region_held3 (fun w' => w'.cell? ⟨w.heap.size, 0, none⟩ = some (.int .i64 ax) ∧ w'.cell? ⟨w.heap.size, 1, none⟩ = some (.int .i64 ay) ∧ w'.cell? ⟨w.heap.size, 2, none⟩ = some (.int .i64 bx) ∧ w'.cell? ⟨w.heap.size, 3, none⟩ = some (.int .i64 b_y) ∧ w'.cell? ⟨w.heap.size + 1, 0, none⟩ = some (.int .i64 px) ∧ w'.cell? ⟨w.heap.size + 1, 1, none⟩ = some (.int .i64 py) ∧ w'.cell? ⟨w1.heap.size, 0, none⟩ = some (.func (.func 46) #[] #[]) ∧ w'.cell? ⟨w1.heap.size, 1, none⟩ = some (.func (.func 47) #[] #[]) ∧ w'.cell? ⟨w1.heap.size, 2, none⟩ = some (.func (.func 48) #[] #[])) (first | exact cB9 K (by assumption) | exact hS0 | exact cS9 (by assumption) (by dsimp only; omega) (by dsimp only; omega) (by dsimp only; omega) (by dsimp only; omega) (by dsimp only; omega) (by dsimp only; omega) (by dsimp only; omega) (by dsimp only; omega) (by dsimp only; omega)) (first | (go_at_call 49; refine (WH.out _).mono ?_; rintro e w2 ⟨rfl, K⟩; have hs2 := hsD.below K; replace H := bw_trans H K; replace RB := keep K RB) | (go_at_call 48; refine (FA.out _ hs2).mono ?_; rintro e w3 ⟨rfl, K⟩; replace H := bw_trans H K; replace RB := keep K RB; obtain ⟨q0, q1, qf0, qf1⟩ := blkF RB))
  have HB : Hid _ := H
  have zz := blk_lt RB
  have R2 := setF2 RB (u0 := .int .i64 (dt bx b_y px py px py)) (u1 := .int .i64 1)
  obtain ⟨r0, r1⟩ := blk_2 R2
  clear H RB R2
  go_wp2_with fail
  exact bodyPost_ret (v := .agg #[.int .i64 (dt bx b_y px py px py), .int .i64 1]) (by simp [results, Tryd.results20, go_sem, r0, r1]) rfl ⟨rfl, by repeat (first | with_reducible exact HB.out | with_reducible refine bw_set ?_ (by dsimp only; omega) _)⟩
set_option maxHeartbeats 2000000 in
theorem segFar_line (ax ay bx b_y px py : Int) (ad : Addr) (w : World) (h0 : Sent ad w) (gs : sgB ax ay bx b_y = true) (gp : ptB px py = true) (h : ¬ dt ax ay bx b_y px py ≤ 0) (h2 : ¬ dt bx b_y ax ay px py ≤ 0) :
    Calls Tryd.prog 20 #[.agg #[.int .i64 ax, .int .i64 ay, .int .i64 bx, .int .i64 b_y], .agg #[.int .i64 px, .int .i64 py]] w fun e w' => e = .returned (.agg #[.int .i64 (ofN (crs ax ay bx b_y px py * crs ax ay bx b_y px py) (dt ax ay bx b_y bx b_y)), .int .i64 (ofD (crs ax ay bx b_y px py * crs ax ay bx b_y px py) (dt ax ay bx b_y bx b_y))]) ∧ Below w.heap.size w w' := by
  have b0 : Below w.heap.size w (((w.alloc (.cells #[.int .i64 ax, .int .i64 ay, .int .i64 bx, .int .i64 b_y] 26)).alloc (.cells #[.int .i64 px, .int .i64 py] 24)).alloc (.cells #[.int .i64 0, .int .i64 0] 34)) := (by repeat (first | exact bw_refl _ | assumption | apply bw_drewN | apply bw_drew | apply bw_alloc | refine bw_set ?_ (by simp) _))
  obtain ⟨W, hW, BW, SB, PB, RB⟩ := boxes3 w (.cells #[.int .i64 ax, .int .i64 ay, .int .i64 bx, .int .i64 b_y] 26) (.cells #[.int .i64 px, .int .i64 py] 24) (.cells #[.int .i64 0, .int .i64 0] 34)
  have WH : Hid (∀ w, Calls Tryd.prog 49 #[.agg #[.int .i64 ax, .int .i64 ay, .int .i64 bx, .int .i64 b_y], .agg #[.int .i64 px, .int .i64 py]] w fun e w' => e = .returned (.int .i64 1) ∧ Below w.heap.size w w') := fun w => where_line ax ay bx b_y px py w gs gp h h2
  have FA : Hid (∀ w, Sent ad w → _) := fun w hs => farLine_ok ax ay bx b_y px py ad w hs gs gp
  clear h h2
  go_enter Tryd.func20, Tryd.ntmps20
  go_wp2_with fail
  refine (segOk_any _ _ _ _ _).mono ?_
  rw [gs]
  rintro e w1 ⟨rfl, J⟩
  obtain ⟨hc, hf⟩ := bcell J
  go_wp2_with fail
  refine (ptOk_any _ _ _).mono ?_
  rw [gp]
  rintro e w1 ⟨rfl, J2⟩
  replace J := bw_trans J J2
  clear hc hf J2
  obtain ⟨hc, hf⟩ := bcell J
  go_upto_region 4 with fail
  have FT : Hid (∃ W2, W2 = w1.alloc (.cells #[.func (.func 46) #[] #[], .func (.func 47) #[] #[], .func (.func 48) #[] #[]] 64)) := ⟨_, rfl⟩
  obtain ⟨W2, hW2⟩ := FT.out
  rw [← hW2]
  rw [← hW] at J
  replace SB := keep J SB
  replace PB := keep J PB
  replace RB := keep J RB
  have zr := blk_lt RB
  have nz : w1.heap.size < W2.heap.size := by rw [hW2]; simp
  have A2 := bw_alloc (bw_refl w1) (.cells #[.func (.func 46) #[] #[], .func (.func 47) #[] #[], .func (.func 48) #[] #[]] 64)
  have TB := heap_new w1 (.cells #[.func (.func 46) #[] #[], .func (.func 47) #[] #[], .func (.func 48) #[] #[]] 64)
  rw [← hW2] at A2 TB
  replace SB := keep A2 SB
  replace PB := keep A2 PB
  replace RB := keep A2 RB
  have H := bw_trans BW (bw_trans J A2)
  have hS0 : (fun w' => w'.cell? ⟨w.heap.size, 0, none⟩ = some (.int .i64 ax) ∧ w'.cell? ⟨w.heap.size, 1, none⟩ = some (.int .i64 ay) ∧ w'.cell? ⟨w.heap.size, 2, none⟩ = some (.int .i64 bx) ∧ w'.cell? ⟨w.heap.size, 3, none⟩ = some (.int .i64 b_y) ∧ w'.cell? ⟨w.heap.size + 1, 0, none⟩ = some (.int .i64 px) ∧ w'.cell? ⟨w.heap.size + 1, 1, none⟩ = some (.int .i64 py) ∧ w'.cell? ⟨w1.heap.size, 0, none⟩ = some (.func (.func 46) #[] #[]) ∧ w'.cell? ⟨w1.heap.size, 1, none⟩ = some (.func (.func 47) #[] #[]) ∧ w'.cell? ⟨w1.heap.size, 2, none⟩ = some (.func (.func 48) #[] #[])) W2 := by
    obtain ⟨s0, s1, s2, s3⟩ := blk_4 SB
    obtain ⟨p0, p1⟩ := blk_2 PB
    obtain ⟨t0, t1, t2⟩ := blk_3 TB
    exact ⟨s0, s1, s2, s3, p0, p1, t0, t1, t2⟩
  clear hW hc hf J A2 SB PB TB BW b0 FT hW2
  have hsD : Sent ad W2.drew := h0.below H.drew
  replace H := H.drew
  replace RB : W2.drew.heap[w.heap.size + 2]? = _ := RB
  go_region_held3 (fun w' => w'.cell? ⟨w.heap.size, 0, none⟩ = some (.int .i64 ax) ∧ w'.cell? ⟨w.heap.size, 1, none⟩ = some (.int .i64 ay) ∧ w'.cell? ⟨w.heap.size, 2, none⟩ = some (.int .i64 bx) ∧ w'.cell? ⟨w.heap.size, 3, none⟩ = some (.int .i64 b_y) ∧ w'.cell? ⟨w.heap.size + 1, 0, none⟩ = some (.int .i64 px) ∧ w'.cell? ⟨w.heap.size + 1, 1, none⟩ = some (.int .i64 py) ∧ w'.cell? ⟨w1.heap.size, 0, none⟩ = some (.func (.func 46) #[] #[]) ∧ w'.cell? ⟨w1.heap.size, 1, none⟩ = some (.func (.func 47) #[] #[]) ∧ w'.cell? ⟨w1.heap.size, 2, none⟩ = some (.func (.func 48) #[] #[])) (first | exact cB9 K (by assumption) | exact hS0 | exact cS9 (by assumption) (by dsimp only; omega) (by dsimp only; omega) (by dsimp only; omega) (by dsimp only; omega) (by dsimp only; omega) (by dsimp only; omega) (by dsimp only; omega) (by dsimp only; omega) (by dsimp only; omega)) (first | (go_at_call 49; refine (WH.out _).mono ?_; rintro e w2 ⟨rfl, K⟩; have hs2 := hsD.below K; replace H := bw_trans H K; replace RB := keep K RB) | (go_at_call 47; refine (FA.out _ hs2).mono ?_; rintro e w3 ⟨rfl, K⟩; replace H := bw_trans H K; replace RB := keep K RB; obtain ⟨q0, q1, qf0, qf1⟩ := blkF RB))
  have HB : Hid _ := H
  have zz := blk_lt RB
  have R2 := setF2 RB (u0 := .int .i64 (ofN (crs ax ay bx b_y px py * crs ax ay bx b_y px py) (dt ax ay bx b_y bx b_y))) (u1 := .int .i64 (ofD (crs ax ay bx b_y px py * crs ax ay bx b_y px py) (dt ax ay bx b_y bx b_y)))
  obtain ⟨r0, r1⟩ := blk_2 R2
  clear H RB R2
  go_wp2_with fail
  exact bodyPost_ret (v := .agg #[.int .i64 (ofN (crs ax ay bx b_y px py * crs ax ay bx b_y px py) (dt ax ay bx b_y bx b_y)), .int .i64 (ofD (crs ax ay bx b_y px py * crs ax ay bx b_y px py) (dt ax ay bx b_y bx b_y))]) (by simp [results, Tryd.results20, go_sem, r0, r1]) rfl ⟨rfl, by repeat (first | with_reducible exact HB.out | with_reducible refine bw_set ?_ (by dsimp only; omega) _)⟩
theorem segFar_ok (ax ay bx b_y px py : Int) (ad : Addr) (w : World) (h0 : Sent ad w) (gs : sgB ax ay bx b_y = true) (gp : ptB px py = true) :
    Calls Tryd.prog 20 #[.agg #[.int .i64 ax, .int .i64 ay, .int .i64 bx, .int .i64 b_y], .agg #[.int .i64 px, .int .i64 py]] w fun e w' => e = .returned (.agg #[.int .i64 (far ax ay bx b_y px py).1, .int .i64 (far ax ay bx b_y px py).2]) ∧ Below w.heap.size w w' := by
  unfold far
  by_cases h : dt ax ay bx b_y px py ≤ 0
  · rw [if_pos h]; exact segFar_first _ _ _ _ _ _ ad w h0 gs gp h
  · rw [if_neg h]
    by_cases h2 : dt bx b_y ax ay px py ≤ 0
    · rw [if_pos h2]; exact segFar_last _ _ _ _ _ _ ad w h0 gs gp h h2
    · rw [if_neg h2]; exact segFar_line _ _ _ _ _ _ ad w h0 gs gp h h2
theorem segFar_any (ax ay bx b_y px py : Int) (ad : Addr) (w : World) (h0 : Sent ad w) :
    Calls Tryd.prog 20 #[.agg #[.int .i64 ax, .int .i64 ay, .int .i64 bx, .int .i64 b_y], .agg #[.int .i64 px, .int .i64 py]] w fun e w' => e = .returned (.agg #[.int .i64 (farV ax ay bx b_y px py).1, .int .i64 (farV ax ay bx b_y px py).2]) ∧ Below w.heap.size w w' := by
  cases gs : sgB ax ay bx b_y
  · have e : farV ax ay bx b_y px py = (0, 0) := by unfold farV; rw [gs]; rfl
    rw [e]; exact segFar_no _ _ _ _ _ _ w (.inl gs)
  · cases gp : ptB px py
    · have e : farV ax ay bx b_y px py = (0, 0) := by unfold farV; rw [gs, gp]; rfl
      rw [e]; exact segFar_no _ _ _ _ _ _ w (.inr ⟨gs, gp⟩)
    · rw [farV_ok gs gp]; exact segFar_ok _ _ _ _ _ _ ad w h0 gs gp
end Go.Proofs.YtmjbfocghlhecaaDoor
