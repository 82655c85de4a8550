/-
  OUR OWN TEXT. Segments on the other side or exchanged, squares of ways, and whether a fraction is 0, by contract.
-/
import Derived.Test.YtmjbfocghlhecaaDoorLu
import Derived.Test.YtmjbfocghlhecaaDoorCells
import Derived.Test.YtmjbfocghlhecaaDoorFarSeg
namespace Go.Proofs.YtmjbfocghlhecaaDoor
open Go.RowKit Go.Sort

theorem setF4 {w : World} {b : Nat} {x0 x1 x2 x3 u0 u1 u2 u3 : Value} {t : TypeId} (h : w.heap[b]? = some (.cells #[x0, x1, x2, x3] t (0, 0))) : ((((w.setCell ⟨b, 0, none⟩ u0).setCell ⟨b, 1, none⟩ u1).setCell ⟨b, 2, none⟩ u2).setCell ⟨b, 3, none⟩ u3).heap[b]? = some (.cells #[u0, u1, u2, u3] t (0, 0)) := by
  simp [World.setCell, Array.getElem?_modify, h]
theorem blkS {w : World} {b : Nat} {x y z u : Value} {t : TypeId} (h : w.heap[b]? = some (.cells #[x, y, z, u] t (0, 0))) :
    w.cell? ⟨b, 0, none⟩ = some x ∧ w.cell? ⟨b, 1, none⟩ = some y ∧ w.cell? ⟨b, 2, none⟩ = some z ∧ w.cell? ⟨b, 3, none⟩ = some u ∧ w.frozen? ⟨b, 0, none⟩ = false ∧ w.frozen? ⟨b, 1, none⟩ = false ∧ w.frozen? ⟨b, 2, none⟩ = false ∧ w.frozen? ⟨b, 3, none⟩ = false := by
  refine ⟨?_, ?_, ?_, ?_, ?_, ?_, ?_, ?_⟩ <;> simp [World.cell?, World.frozen?, h]
set_option maxHeartbeats 1000000 in
theorem luSeg_mir (ax ay bx b_y : Int) (w : World) (gs : sgB ax ay bx b_y = true) :
    Calls Tryd.prog 24 #[.agg #[.int .i64 ax, .int .i64 ay, .int .i64 bx, .int .i64 b_y], .bool false] w fun e w' => e = .returned (.agg #[.int .i64 (9-ax), .int .i64 ay, .int .i64 (9-bx), .int .i64 b_y]) ∧ Below w.heap.size w w' := by
  obtain ⟨W, hW, H, SB, RB⟩ := boxes2 w (.cells #[.int .i64 ax, .int .i64 ay, .int .i64 bx, .int .i64 b_y] 26) (.cells #[.int .i64 0, .int .i64 0, .int .i64 0, .int .i64 0] 26)
  have L1 : Hid _ := fun w => luMirror_ok ax ay w (sg_parts gs).1
  have L2 : Hid _ := fun w => luMirror_ok bx b_y w (sg_parts gs).2.1
  go_enter Tryd.func24, Tryd.ntmps24
  go_upto_region 3 with fail
  rw [← hW]
  have zr := blk_lt RB
  replace H := H.drew
  have hS0 : (fun w' => w'.cell? ⟨w.heap.size, 0, none⟩ = some (.int .i64 ax) ∧ w'.cell? ⟨w.heap.size, 1, none⟩ = some (.int .i64 ay) ∧ w'.cell? ⟨w.heap.size, 2, none⟩ = some (.int .i64 bx) ∧ w'.cell? ⟨w.heap.size, 3, none⟩ = some (.int .i64 b_y)) W := blk_4 SB
  clear hW SB
  replace RB : W.drew.heap[w.heap.size + 1]? = _ := RB
  go_region_held3 (fun w' => w'.cell? ⟨w.heap.size, 0, none⟩ = some (.int .i64 ax) ∧ w'.cell? ⟨w.heap.size, 1, none⟩ = some (.int .i64 ay) ∧ w'.cell? ⟨w.heap.size, 2, none⟩ = some (.int .i64 bx) ∧ w'.cell? ⟨w.heap.size, 3, none⟩ = some (.int .i64 b_y)) (first | with_reducible exact cB4 K (by assumption) | exact hS0 | exact cT4 (by assumption) (by dsimp only; omega) (by dsimp only; omega) (by dsimp only; omega) (by dsimp only; omega)) (first | (go_at_call 55; refine (L1.out _).mono ?_; clear L1; rintro e v1 ⟨rfl, K⟩; replace H := bw_trans H K; replace RB := keep K RB; obtain ⟨q0, q1, q2, q3, qf0, qf1, qf2, qf3⟩ := blkS RB) | (go_at_call 55; refine (L2.out _).mono ?_; clear L2; rintro e v2 ⟨rfl, K⟩; replace H := bw_trans H K; replace RB := keep K RB; obtain ⟨q0, q1, q2, q3, qf0, qf1, qf2, qf3⟩ := blkS RB))
  have HB : Hid _ := H
  have zz := blk_lt RB
  have R2 := setF4 RB (u0 := .int .i64 (9-ax)) (u1 := .int .i64 ay) (u2 := .int .i64 (9-bx)) (u3 := .int .i64 b_y)
  obtain ⟨r0, r1, r2, r3⟩ := blk_4 R2
  clear H RB R2
  go_wp2_with fail
  exact bodyPost_ret (v := .agg #[.int .i64 (9-ax), .int .i64 ay, .int .i64 (9-bx), .int .i64 b_y]) (by simp [results, Tryd.results24, go_sem, r0, r1, r2, r3]) rfl ⟨rfl, by repeat (first | with_reducible exact HB.out | with_reducible refine bw_set ?_ (by dsimp only; omega) _)⟩
set_option maxHeartbeats 1000000 in
theorem luSeg_swap (ax ay bx b_y : Int) (w : World) :
    Calls Tryd.prog 24 #[.agg #[.int .i64 ax, .int .i64 ay, .int .i64 bx, .int .i64 b_y], .bool true] w fun e w' => e = .returned (.agg #[.int .i64 ay, .int .i64 ax, .int .i64 b_y, .int .i64 bx]) ∧ Below w.heap.size w w' := by
  obtain ⟨W, hW, H, SB, RB⟩ := boxes2 w (.cells #[.int .i64 ax, .int .i64 ay, .int .i64 bx, .int .i64 b_y] 26) (.cells #[.int .i64 0, .int .i64 0, .int .i64 0, .int .i64 0] 26)
  have L1 : Hid _ := fun w => luSwap_any ax ay w
  have L2 : Hid _ := fun w => luSwap_any bx b_y w
  go_enter Tryd.func24, Tryd.ntmps24
  go_upto_region 2 with fail
  rw [← hW]
  have zr := blk_lt RB
  replace H := H.drew
  have hS0 : (fun w' => w'.cell? ⟨w.heap.size, 0, none⟩ = some (.int .i64 ax) ∧ w'.cell? ⟨w.heap.size, 1, none⟩ = some (.int .i64 ay) ∧ w'.cell? ⟨w.heap.size, 2, none⟩ = some (.int .i64 bx) ∧ w'.cell? ⟨w.heap.size, 3, none⟩ = some (.int .i64 b_y)) W := blk_4 SB
  clear hW SB
  replace RB : W.drew.heap[w.heap.size + 1]? = _ := RB
  go_region_held3 (fun w' => w'.cell? ⟨w.heap.size, 0, none⟩ = some (.int .i64 ax) ∧ w'.cell? ⟨w.heap.size, 1, none⟩ = some (.int .i64 ay) ∧ w'.cell? ⟨w.heap.size, 2, none⟩ = some (.int .i64 bx) ∧ w'.cell? ⟨w.heap.size, 3, none⟩ = some (.int .i64 b_y)) (first | with_reducible exact cB4 K (by assumption) | exact hS0 | exact cT4 (by assumption) (by dsimp only; omega) (by dsimp only; omega) (by dsimp only; omega) (by dsimp only; omega)) (first | (go_at_call 54; refine (L1.out _).mono ?_; clear L1; rintro e v1 ⟨rfl, K⟩; replace H := bw_trans H K; replace RB := keep K RB; obtain ⟨q0, q1, q2, q3, qf0, qf1, qf2, qf3⟩ := blkS RB) | (go_at_call 54; refine (L2.out _).mono ?_; clear L2; rintro e v2 ⟨rfl, K⟩; replace H := bw_trans H K; replace RB := keep K RB; obtain ⟨q0, q1, q2, q3, qf0, qf1, qf2, qf3⟩ := blkS RB))
  have HB : Hid _ := H
  have zz := blk_lt RB
  have R2 := setF4 RB (u0 := .int .i64 ay) (u1 := .int .i64 ax) (u2 := .int .i64 b_y) (u3 := .int .i64 bx)
  obtain ⟨r0, r1, r2, r3⟩ := blk_4 R2
  clear H RB R2
  go_wp2_with fail
  exact bodyPost_ret (v := .agg #[.int .i64 ay, .int .i64 ax, .int .i64 b_y, .int .i64 bx]) (by simp [results, Tryd.results24, go_sem, r0, r1, r2, r3]) rfl ⟨rfl, by repeat (first | with_reducible exact HB.out | with_reducible refine bw_set ?_ (by dsimp only; omega) _)⟩
theorem luPlace_mir (x y : Int) (w : World) (h : ptB x y = true) :
    Calls Tryd.prog 25 #[.agg #[.int .i64 x, .int .i64 y], .bool false] w fun e w' => e = .returned (.agg #[.int .i64 (9-x), .int .i64 y]) ∧ Below w.heap.size w w' := by
  go_enter Tryd.func25, Tryd.ntmps25
  go_wp2_with fail
  refine (luMirror_ok _ _ _ h).mono ?_
  rintro e w1 ⟨rfl, J⟩
  obtain ⟨hc, hf⟩ := bcell J
  have HB : Hid (Below w.heap.size w w1) := bw_trans (by repeat (first | exact bw_refl _ | assumption | apply bw_drewN | apply bw_drew | apply bw_alloc | refine bw_set ?_ (by simp) _)) J
  have hz := J.size
  simp at hz
  have hz' : w.heap.size + 1 < w1.heap.size := by omega
  clear hz J
  go_wp2_with fail
  exact bodyPost_ret (v := .agg #[.int .i64 (9-x), .int .i64 y]) (by simp [results, Tryd.results25, go_sem, hc]) rfl ⟨rfl, by repeat (first | with_reducible exact HB.out | with_reducible refine bw_set ?_ (by dsimp only; omega) _)⟩
theorem luPlace_swap (x y : Int) (w : World) :
    Calls Tryd.prog 25 #[.agg #[.int .i64 x, .int .i64 y], .bool true] w fun e w' => e = .returned (.agg #[.int .i64 y, .int .i64 x]) ∧ Below w.heap.size w w' := by
  go_enter Tryd.func25, Tryd.ntmps25
  go_wp2_with fail
  refine (luSwap_any _ _ _).mono ?_
  rintro e w1 ⟨rfl, J⟩
  obtain ⟨hc, hf⟩ := bcell J
  have HB : Hid (Below w.heap.size w w1) := bw_trans (by repeat (first | exact bw_refl _ | assumption | apply bw_drewN | apply bw_drew | apply bw_alloc | refine bw_set ?_ (by simp) _)) J
  have hz := J.size
  simp at hz
  have hz' : w.heap.size + 1 < w1.heap.size := by omega
  clear hz J
  go_wp2_with fail
  exact bodyPost_ret (v := .agg #[.int .i64 y, .int .i64 x]) (by simp [results, Tryd.results25, go_sem, hc]) rfl ⟨rfl, by repeat (first | with_reducible exact HB.out | with_reducible refine bw_set ?_ (by dsimp only; omega) _)⟩
set_option maxHeartbeats 400000 in
theorem luSq_ok (ax ay bx b_y : Int) (w : World) (ha : ptB ax ay = true) (hb : ptB bx b_y = true) :
    Calls Tryd.prog 21 #[.agg #[.int .i64 ax, .int .i64 ay], .agg #[.int .i64 bx, .int .i64 b_y]] w fun e w' => e = .returned (.int .i64 (dt bx b_y ax ay ax ay)) ∧ Below w.heap.size w w' := by
  rw [ptB_iff] at ha hb
  have h1 := prod_bd (x := ax - bx) (y := ax - bx) (by omega) (by omega) (by omega) (by omega)
  have h2 := prod_bd (x := ay - b_y) (y := ay - b_y) (by omega) (by omega) (by omega) (by omega)
  go_enter Tryd.func21, Tryd.ntmps21
  go_wp2
  go_ret
  exact ⟨rfl, (by repeat (first | exact bw_refl _ | assumption | apply bw_drewN | apply bw_drew | apply bw_alloc | refine bw_set ?_ (by simp) _))⟩
/-- Whether a fraction is 0. -/
def zeroB (f : Int × Int) : Bool := decide (f = (0, 1))
theorem luZero_any (f : Int × Int) (w : World) :
    Calls Tryd.prog 19 #[.agg #[.int .i64 f.1, .int .i64 f.2]] w fun e w' => e = .returned (.bool (zeroB f)) ∧ Below w.heap.size w w' := by
  obtain ⟨n, d⟩ := f
  by_cases h1 : n = 0
  · by_cases h2 : d = 1
    · subst h1 h2
      go_enter Tryd.func19, Tryd.ntmps19
      go_wp2
      go_ret
      exact ⟨ret_bool (by simp [zeroB]), (by repeat (first | exact bw_refl _ | assumption | apply bw_drewN | apply bw_drew | apply bw_alloc | refine bw_set ?_ (by simp) _))⟩
    · subst h1
      have e2 : Hid (zeroB (0, d) = false) := by change _ = _; simp [zeroB, h2]
      have h2' : (d == 1) = false := by simpa using h2
      clear h2
      go_enter Tryd.func19, Tryd.ntmps19
      go_wp2
      go_ret
      exact ⟨ret_bool e2.out.symm, (by repeat (first | exact bw_refl _ | assumption | apply bw_drewN | apply bw_drew | apply bw_alloc | refine bw_set ?_ (by simp) _))⟩
  · have e2 : Hid (zeroB (n, d) = false) := by change _ = _; simp [zeroB, h1]
    have h1' : (n == 0) = false := by simpa using h1
    clear h1
    go_enter Tryd.func19, Tryd.ntmps19
    go_wp2
    go_ret
    exact ⟨ret_bool e2.out.symm, (by repeat (first | exact bw_refl _ | assumption | apply bw_drewN | apply bw_drew | apply bw_alloc | refine bw_set ?_ (by simp) _))⟩
end Go.Proofs.YtmjbfocghlhecaaDoor
