/-
  OUR OWN TEXT. SegFar of the program, by contract, at every argument; the one condition: errNoFrac holds a pointer to an errors.errorString.
-/
import Derived.Test.YtmjbfocghlhecaaDoorFar
import Derived.Laws.EntriesVeiled
namespace Go.Proofs.YtmjbfocghlhecaaDoor
open Go.RowKit Go.Sort

/-- How far, at whatever arguments. -/
def farV (ax ay bx b_y px py : Int) : Int × Int := if sgB ax ay bx b_y && ptB px py then far ax ay bx b_y px py else (0, 0)
theorem ret_fr {a b c d : Int} (h : a = c) (h2 : b = d) : Ending.returned (.agg #[.int .i64 a, .int .i64 b]) = .returned (.agg #[.int .i64 c, .int .i64 d]) := by rw [h, h2]
theorem blk_3 {w : World} {b : Nat} {x y z : Value} {t : TypeId} (h : w.heap[b]? = some (.cells #[x, y, z] t (0, 0))) :
    w.cell? ⟨b, 0, none⟩ = some x ∧ w.cell? ⟨b, 1, none⟩ = some y ∧ w.cell? ⟨b, 2, none⟩ = some z := by
  refine ⟨?_, ?_, ?_⟩ <;> simp [World.cell?, h]
theorem blkF {w : World} {b : Nat} {x y : Value} {t : TypeId} (h : w.heap[b]? = some (.cells #[x, y] t (0, 0))) :
    w.cell? ⟨b, 0, none⟩ = some x ∧ w.cell? ⟨b, 1, none⟩ = some y ∧ w.frozen? ⟨b, 0, none⟩ = false ∧ w.frozen? ⟨b, 1, none⟩ = false := by
  refine ⟨?_, ?_, ?_, ?_⟩ <;> simp [World.cell?, World.frozen?, h]
theorem farV_ok {ax ay bx b_y px py : Int} (gs : sgB ax ay bx b_y = true) (gp : ptB px py = true) : farV ax ay bx b_y px py = far ax ay bx b_y px py := by unfold farV; rw [gs, gp]; rfl
set_option maxHeartbeats 1000000 in
theorem segFar_no (ax ay bx b_y px py : Int) (w : World) (h : sgB ax ay bx b_y = false ∨ (sgB ax ay bx b_y = true ∧ ptB px py = false)) :
    Calls Tryd.prog 20 #[.agg #[.int .i64 ax, .int .i64 ay, .int .i64 bx, .int .i64 b_y], .agg #[.int .i64 px, .int .i64 py]] w fun e w' => e = .returned (.agg #[.int .i64 0, .int .i64 0]) ∧ Below w.heap.size w w' := by
  rcases h with gs | ⟨gs, gp⟩
  · go_enter Tryd.func20, Tryd.ntmps20
    go_wp2_with fail
    refine (segOk_any _ _ _ _ _).mono ?_
    rw [gs]
    rintro e w1 ⟨rfl, J⟩
    obtain ⟨hc, hf⟩ := bcell J
    have HB : Hid (Below w.heap.size w w1) := bw_trans (by repeat (first | exact bw_refl _ | assumption | apply bw_drewN | apply bw_drew | apply bw_alloc | refine bw_set ?_ (by simp) _)) J
    have hz := J.size
    simp at hz
    have hz' : w.heap.size + 2 < w1.heap.size := by omega
    clear hz J
    go_wp2_with fail
    exact bodyPost_ret (v := .agg #[.int .i64 0, .int .i64 0]) (by simp [results, Tryd.results20, go_sem, hc]) rfl ⟨rfl, by repeat (first | with_reducible exact HB.out | with_reducible refine bw_set ?_ (by dsimp only; omega) _)⟩
  · go_enter Tryd.func20, Tryd.ntmps20
    go_wp2_with fail
    refine (segOk_any _ _ _ _ _).mono ?_
    rw [gs]
    rintro e w1 ⟨rfl, J⟩
    obtain ⟨hc, hf⟩ := bcell J
    go_wp2_with fail
    refine (ptOk_any _ _ _).mono ?_
    rw [gp]
    rintro e w1 ⟨rfl, J2⟩
    replace J := bw_trans J J2
    clear hc hf J2
    obtain ⟨hc, hf⟩ := bcell J
    have HB : Hid (Below w.heap.size w w1) := bw_trans (by repeat (first | exact bw_refl _ | assumption | apply bw_drewN | apply bw_drew | apply bw_alloc | refine bw_set ?_ (by simp) _)) J
    have hz := J.size
    simp at hz
    have hz' : w.heap.size + 2 < w1.heap.size := by omega
    clear hz J
    go_wp2_with fail
    exact bodyPost_ret (v := .agg #[.int .i64 0, .int .i64 0]) (by simp [results, Tryd.results20, go_sem, hc]) rfl ⟨rfl, by repeat (first | with_reducible exact HB.out | with_reducible refine bw_set ?_ (by dsimp only; omega) _)⟩
set_option maxHeartbeats 2000000 in
theorem segFar_first (ax ay bx b_y px py : Int) (ad : Addr) (w : World) (h0 : Sent ad w) (gs : sgB ax ay bx b_y = true) (gp : ptB px py = true) (h : dt ax ay bx b_y px py ≤ 0) :
    Calls Tryd.prog 20 #[.agg #[.int .i64 ax, .int .i64 ay, .int .i64 bx, .int .i64 b_y], .agg #[.int .i64 px, .int .i64 py]] w fun e w' => e = .returned (.agg #[.int .i64 (dt ax ay px py px py), .int .i64 1]) ∧ Below w.heap.size w w' := by
  have b0 : Below w.heap.size w (((w.alloc (.cells #[.int .i64 ax, .int .i64 ay, .int .i64 bx, .int .i64 b_y] 26)).alloc (.cells #[.int .i64 px, .int .i64 py] 24)).alloc (.cells #[.int .i64 0, .int .i64 0] 34)) := (by repeat (first | exact bw_refl _ | assumption | apply bw_drewN | apply bw_drew | apply bw_alloc | refine bw_set ?_ (by simp) _))
  obtain ⟨W, hW, BW, SB, PB, RB⟩ := boxes3 w (.cells #[.int .i64 ax, .int .i64 ay, .int .i64 bx, .int .i64 b_y] 26) (.cells #[.int .i64 px, .int .i64 py] 24) (.cells #[.int .i64 0, .int .i64 0] 34)
  have WH : Hid (∀ w, Calls Tryd.prog 49 #[.agg #[.int .i64 ax, .int .i64 ay, .int .i64 bx, .int .i64 b_y], .agg #[.int .i64 px, .int .i64 py]] w fun e w' => e = .returned (.int .i64 0) ∧ Below w.heap.size w w') := fun w => where_first ax ay bx b_y px py w gs gp h
  have FA : Hid (∀ w, Sent ad w → _) := fun w hs => farFirst_ok ax ay bx b_y px py ad w hs gs gp
  clear h
  go_enter Tryd.func20, Tryd.ntmps20
  go_wp2_with fail
  refine (segOk_any _ _ _ _ _).mono ?_
  rw [gs]
  rintro e w1 ⟨rfl, J⟩
  obtain ⟨hc, hf⟩ := bcell J
  go_wp2_with fail
  refine (ptOk_any _ _ _).mono ?_
  rw [gp]
  rintro e w1 ⟨rfl, J2⟩
  replace J := bw_trans J J2
  clear hc hf J2
  obtain ⟨hc, hf⟩ := bcell J
  go_upto_region 4 with fail
  have FT : Hid (∃ W2, W2 = w1.alloc (.cells #[.func (.func 46) #[] #[], .func (.func 47) #[] #[], .func (.func 48) #[] #[]] 64)) := ⟨_, rfl⟩
  obtain ⟨W2, hW2⟩ := FT.out
  rw [← hW2]
  rw [← hW] at J
  replace SB := keep J SB
  replace PB := keep J PB
  replace RB := keep J RB
  have zr := blk_lt RB
  have nz : w1.heap.size < W2.heap.size := by rw [hW2]; simp
  have A2 := bw_alloc (bw_refl w1) (.cells #[.func (.func 46) #[] #[], .func (.func 47) #[] #[], .func (.func 48) #[] #[]] 64)
  have TB := heap_new w1 (.cells #[.func (.func 46) #[] #[], .func (.func 47) #[] #[], .func (.func 48) #[] #[]] 64)
  rw [← hW2] at A2 TB
  replace SB := keep A2 SB
  replace PB := keep A2 PB
  replace RB := keep A2 RB
  have H := bw_trans BW (bw_trans J A2)
  have hS0 : (fun w' => w'.cell? ⟨w.heap.size, 0, none⟩ = some (.int .i64 ax) ∧ w'.cell? ⟨w.heap.size, 1, none⟩ = some (.int .i64 ay) ∧ w'.cell? ⟨w.heap.size, 2, none⟩ = some (.int .i64 bx) ∧ w'.cell? ⟨w.heap.size, 3, none⟩ = some (.int .i64 b_y) ∧ w'.cell? ⟨w.heap.size + 1, 0, none⟩ = some (.int .i64 px) ∧ w'.cell? ⟨w.heap.size + 1, 1, none⟩ = some (.int .i64 py) ∧ w'.cell? ⟨w1.heap.size, 0, none⟩ = some (.func (.func 46) #[] #[]) ∧ w'.cell? ⟨w1.heap.size, 1, none⟩ = some (.func (.func 47) #[] #[]) ∧ w'.cell? ⟨w1.heap.size, 2, none⟩ = some (.func (.func 48) #[] #[])) W2 := by
    obtain ⟨s0, s1, s2, s3⟩ := blk_4 SB
    obtain ⟨p0, p1⟩ := blk_2 PB
    obtain ⟨t0, t1, t2⟩ := blk_3 TB
    exact ⟨s0, s1, s2, s3, p0, p1, t0, t1, t2⟩
  clear hW hc hf J A2 SB PB TB BW b0 FT hW2
  have hsD : Sent ad W2.drew := h0.below H.drew
  replace H := H.drew
  replace RB : W2.drew.heap[w.heap.size + 2]? = _ := RB
  go_region_held3 (fun w' => w'.cell? ⟨w.heap.size, 0, none⟩ = some (.int .i64 ax) ∧ w'.cell? ⟨w.heap.size, 1, none⟩ = some (.int .i64 ay) ∧ w'.cell? ⟨w.heap.size, 2, none⟩ = some (.int .i64 bx) ∧ w'.cell? ⟨w.heap.size, 3, none⟩ = some (.int .i64 b_y) ∧ w'.cell? ⟨w.heap.size + 1, 0, none⟩ = some (.int .i64 px) ∧ w'.cell? ⟨w.heap.size + 1, 1, none⟩ = some (.int .i64 py) ∧ w'.cell? ⟨w1.heap.size, 0, none⟩ = some (.func (.func 46) #[] #[]) ∧ w'.cell? ⟨w1.heap.size, 1, none⟩ = some (.func (.func 47) #[] #[]) ∧ w'.cell? ⟨w1.heap.size, 2, none⟩ = some (.func (.func 48) #[] #[])) (first | exact cB9 K (by assumption) | exact hS0 | exact cS9 (by assumption) (by dsimp only; omega) (by dsimp only; omega) (by dsimp only; omega) (by dsimp only; omega) (by dsimp only; omega) (by dsimp only; omega) (by dsimp only; omega) (by dsimp only; omega) (by dsimp only; omega)) (first | (go_at_call 49; refine (WH.out _).mono ?_; rintro e w2 ⟨rfl, K⟩; have hs2 := hsD.below K; replace H := bw_trans H K; replace RB := keep K RB) | (go_at_call 46; refine (FA.out _ hs2).mono ?_; rintro e w3 ⟨rfl, K⟩; replace H := bw_trans H K; replace RB := keep K RB; obtain ⟨q0, q1, qf0, qf1⟩ := blkF RB))
  have HB : Hid _ := H
  have zz := blk_lt RB
  have R2 := setF2 RB (u0 := .int .i64 (dt ax ay px py px py)) (u1 := .int .i64 1)
  obtain ⟨r0, r1⟩ := blk_2 R2
  clear H RB R2
  go_wp2_with fail
  exact bodyPost_ret (v := .agg #[.int .i64 (dt ax ay px py px py), .int .i64 1]) (by simp [results, Tryd.results20, go_sem, r0, r1]) rfl ⟨rfl, by repeat (first | with_reducible exact HB.out | with_reducible refine bw_set ?_ (by dsimp only; omega) _)⟩
end Go.Proofs.YtmjbfocghlhecaaDoor
