/-
  OUR OWN TEXT. The lesser of two fractions, and the least of four: the specification's and the program's, by contract.
-/
import Derived.Test.YtmjbfocghlhecaaDoorSFar
import Derived.Test.YtmjbfocghlhecaaDoorGeoApart
namespace Go.Proofs.YtmjbfocghlhecaaDoor
open Go.RowKit Go.Sort

theorem cmpI_lt (x y : Int) (h : x < y) : cmpI x y = -1 := by unfold cmpI; rw [if_pos h]
theorem cmpI_ge (x y : Int) (h : ¬ x < y) : ¬ cmpI x y < 0 := by unfold cmpI; rw [if_neg h]; split <;> omega
set_option maxHeartbeats 1000000 in
theorem sLeast_ok (f g : Int × Int) (w : World) (hf : OkF f) (hg : OkF g) :
    Calls Tryd.prog 74 #[.agg #[.int .i64 f.1, .int .i64 f.2], .agg #[.int .i64 g.1, .int .i64 g.2]] w fun e w' => e = .returned (.agg #[.int .i64 (mn f g).1, .int .i64 (mn f g).2]) ∧ Below w.heap.size w w' := by
  unfold OkF at hf hg
  obtain ⟨n, d⟩ := f
  obtain ⟨m, b⟩ := g
  unfold mn
  by_cases h : m * d < n * b
  · rw [if_pos h]
    have e := cmpI_lt _ _ h
    clear h
    go_enter Tryd.func74, Tryd.ntmps74
    go_wp2_with fail
    refine (l1Cmp_any _ _ _ _ _ hg hf).mono ?_
    rw [e]
    rintro e w1 ⟨rfl, J⟩
    obtain ⟨hc, hf⟩ := bcell J
    have HB : Hid (Below w.heap.size w w1) := bw_trans (by repeat (first | exact bw_refl _ | assumption | apply bw_drewN | apply bw_drew | apply bw_alloc | refine bw_set ?_ (by simp) _)) J
    have hz := J.size
    simp at hz
    have hz' : w.heap.size + 2 < w1.heap.size := by omega
    clear hz J
    go_wp2_with fail
    exact bodyPost_ret (v := .agg #[.int .i64 m, .int .i64 b]) (by simp [results, Tryd.results74, go_sem, hc]) rfl ⟨rfl, by repeat (first | with_reducible exact HB.out | with_reducible refine bw_set ?_ (by dsimp only; omega) _)⟩
  · rw [if_neg h]
    have e := cmpI_ge _ _ h
    clear h
    generalize hx : cmpI (m * d) (n * b) = x at e
    have hx' : Hid (cmpI (m * d) (n * b) = x) := hx
    clear hx
    have e' : 0 ≤ x := by omega
    clear e
    go_enter Tryd.func74, Tryd.ntmps74
    go_wp2_with fail
    refine (l1Cmp_any _ _ _ _ _ hg hf).mono ?_
    rw [hx'.out]
    rintro e w1 ⟨rfl, J⟩
    obtain ⟨hc, hf⟩ := bcell J
    have HB : Hid (Below w.heap.size w w1) := bw_trans (by repeat (first | exact bw_refl _ | assumption | apply bw_drewN | apply bw_drew | apply bw_alloc | refine bw_set ?_ (by simp) _)) J
    have hz := J.size
    simp at hz
    have hz' : w.heap.size + 2 < w1.heap.size := by omega
    clear hz J
    go_wp2_with fail
    exact bodyPost_ret (v := .agg #[.int .i64 n, .int .i64 d]) (by simp [results, Tryd.results74, go_sem, hc]) rfl ⟨rfl, by repeat (first | with_reducible exact HB.out | with_reducible refine bw_set ?_ (by dsimp only; omega) _)⟩
/-- The block of three fractions. -/
def Three (w : World) (b : Nat) (f g h : Int × Int) : Prop := w.heap[b]? = some (.cells #[.int .i64 f.1, .int .i64 f.2, .int .i64 g.1, .int .i64 g.2, .int .i64 h.1, .int .i64 h.2] 34 (0, 0))
theorem setO2 {w : World} {b b' i j : Nat} {v u : Value} {o : Obj} (h : w.heap[b']? = some o) (hne : b' ≠ b) : ((w.setCell ⟨b, i, none⟩ v).setCell ⟨b, j, none⟩ u).heap[b']? = some o := by
  rw [Below.heap_setCell _ _ _ _ (by show b' ≠ b; exact hne), Below.heap_setCell _ _ _ _ (by show b' ≠ b; exact hne)]; exact h
theorem blk_6 {w : World} {b : Nat} {x0 x1 x2 x3 x4 x5 : Value} {t : TypeId} (h : w.heap[b]? = some (.cells #[x0, x1, x2, x3, x4, x5] t (0, 0))) :
    w.cell? ⟨b, 0, none⟩ = some x0 ∧ w.cell? ⟨b, 1, none⟩ = some x1 ∧ w.cell? ⟨b, 2, none⟩ = some x2 ∧ w.cell? ⟨b, 3, none⟩ = some x3 ∧ w.cell? ⟨b, 4, none⟩ = some x4 ∧ w.cell? ⟨b, 5, none⟩ = some x5 := by
  refine ⟨?_, ?_, ?_, ?_, ?_, ?_⟩ <;> simp [World.cell?, h]
set_option maxHeartbeats 2000000 in
theorem least_ok (f0 f1 f2 f3 : Int × Int) (bs : Nat) (ad : Addr) (w : World) (h0 : Sent ad w) (o0 : OkF f0) (o1 : OkF f1) (o2 : OkF f2) (o3 : OkF f3) (TH : Three w bs f1 f2 f3) :
    Calls Tryd.prog 58 #[.agg #[.int .i64 f0.1, .int .i64 f0.2], .slice (some ⟨bs, 0, none⟩) 3 3] w fun e w' => e = .returned (.agg #[.int .i64 (mnA f0 f1 f2 f3).1, .int .i64 (mnA f0 f1 f2 f3).2]) ∧ Below w.heap.size w w' := by
  unfold Three at TH
  have zb := blk_lt TH
  obtain ⟨W, hW, H, _, RB, LB⟩ := boxes3 w (.cells #[.int .i64 f0.1, .int .i64 f0.2] 34) (.cells #[.int .i64 0, .int .i64 0] 34) (.cells #[.int .i64 f0.1, .int .i64 f0.2] 34)
  replace TH := keep H TH
  have nb : bs ≠ w.heap.size + 1 ∧ bs ≠ w.heap.size + 2 := by omega
  obtain ⟨nb1, nb2⟩ := nb
  go_enter Tryd.func58, Tryd.ntmps58
  go_upto_region 3 with fail
  rw [← hW]
  clear hW
  refine wp_loop_rounds 4 ?_
  rw [rounds_succ]
  obtain ⟨t0, t1, t2, t3, t4, t5⟩ := blk_6 TH
  obtain ⟨l0, l1⟩ := blk_2 LB
  have zl := blk_lt LB
  have zt := blk_lt TH
  have hs1 := h0.below H
  by_cases c1 : f1.1 * f0.2 < f0.1 * f1.2
  · have m1 : mn f0 f1 = f1 := if_pos c1
    have e1 := cmpI_lt _ _ c1
    clear c1
    go_wp2_with fail
    refine (fracCmp_both f1.1 f1.2 f0.1 f0.2 ad _ (hs1.below (bw_alloc (bw_refl _) _)) o1 o0).mono ?_
    rw [e1]
    rintro e w1 ⟨rfl, K⟩
    have FB := keep K (heap_new _ _)
    replace LB := keep K ((heap_old _ _ (blk_lt LB)).trans LB)
    replace RB := keep K ((heap_old _ _ (blk_lt RB)).trans RB)
    replace TH := keep K ((heap_old _ _ (blk_lt TH)).trans TH)
    replace H := bw_trans (bw_alloc H _) K
    clear t0 t1 t2 t3 t4 t5 l0 l1 K hs1
    have zf := blk_lt FB
    have zl1 := blk_lt LB
    obtain ⟨u0, u1⟩ := blk_2 FB
    obtain ⟨q0, q1, qf0, qf1⟩ := blkF LB
    go_wp2_with fail
    replace LB := setF2 LB (u0 := .int .i64 f1.1) (u1 := .int .i64 f1.2)
    replace RB := setO2 RB (b := w.heap.size + 2) (i := 0) (j := 1) (v := .int .i64 f1.1) (u := .int .i64 f1.2) (by omega)
    replace TH := setO2 TH (b := w.heap.size + 2) (i := 0) (j := 1) (v := .int .i64 f1.1) (u := .int .i64 f1.2) (by omega)
    replace H := bw_set (bw_set H (p := ⟨w.heap.size + 2, 0, none⟩) (by dsimp only; omega) (.int .i64 f1.1)) (p := ⟨w.heap.size + 2, 1, none⟩) (by dsimp only; omega) (.int .i64 f1.2)
    clear q0 q1 qf0 qf1 e1
    generalize ((w1.setCell ⟨w.heap.size + 2, 0, none⟩ (.int .i64 f1.1)).setCell ⟨w.heap.size + 2, 1, none⟩ (.int .i64 f1.2)) = V1 at LB RB TH H ⊢
    clear u0 u1 FB zf zl zl1 zt
    rw [rounds_succ]
    obtain ⟨t0, t1, t2, t3, t4, t5⟩ := blk_6 TH
    obtain ⟨l0, l1⟩ := blk_2 LB
    have zl := blk_lt LB
    have zt := blk_lt TH
    have hs2 := h0.below H
    by_cases c2 : f2.1 * f1.2 < f1.1 * f2.2
    · have m2 : mn f1 f2 = f2 := if_pos c2
      have e2 := cmpI_lt _ _ c2
      clear c2
      go_wp2_with fail
      refine (fracCmp_both f2.1 f2.2 f1.1 f1.2 ad _ (hs2.below (bw_alloc (bw_refl _) _)) o2 o1).mono ?_
      rw [e2]
      rintro e w2 ⟨rfl, K⟩
      have FB := keep K (heap_new _ _)
      replace LB := keep K ((heap_old _ _ (blk_lt LB)).trans LB)
      replace RB := keep K ((heap_old _ _ (blk_lt RB)).trans RB)
      replace TH := keep K ((heap_old _ _ (blk_lt TH)).trans TH)
      replace H := bw_trans (bw_alloc H _) K
      clear t0 t1 t2 t3 t4 t5 l0 l1 K hs2
      have zf := blk_lt FB
      have zl2 := blk_lt LB
      obtain ⟨u0, u1⟩ := blk_2 FB
      obtain ⟨q0, q1, qf0, qf1⟩ := blkF LB
      go_wp2_with fail
      replace LB := setF2 LB (u0 := .int .i64 f2.1) (u1 := .int .i64 f2.2)
      replace RB := setO2 RB (b := w.heap.size + 2) (i := 0) (j := 1) (v := .int .i64 f2.1) (u := .int .i64 f2.2) (by omega)
      replace TH := setO2 TH (b := w.heap.size + 2) (i := 0) (j := 1) (v := .int .i64 f2.1) (u := .int .i64 f2.2) (by omega)
      replace H := bw_set (bw_set H (p := ⟨w.heap.size + 2, 0, none⟩) (by dsimp only; omega) (.int .i64 f2.1)) (p := ⟨w.heap.size + 2, 1, none⟩) (by dsimp only; omega) (.int .i64 f2.2)
      clear q0 q1 qf0 qf1 e2
      generalize ((w2.setCell ⟨w.heap.size + 2, 0, none⟩ (.int .i64 f2.1)).setCell ⟨w.heap.size + 2, 1, none⟩ (.int .i64 f2.2)) = V2 at LB RB TH H ⊢
      clear u0 u1 FB zf zl zl2 zt
      rw [rounds_succ]
      obtain ⟨t0, t1, t2, t3, t4, t5⟩ := blk_6 TH
      obtain ⟨l0, l1⟩ := blk_2 LB
      have zl := blk_lt LB
      have zt := blk_lt TH
      have hs3 := h0.below H
      by_cases c3 : f3.1 * f2.2 < f2.1 * f3.2
      · have m3 : mn f2 f3 = f3 := if_pos c3
        have e3 := cmpI_lt _ _ c3
        clear c3
        go_wp2_with fail
        refine (fracCmp_both f3.1 f3.2 f2.1 f2.2 ad _ (hs3.below (bw_alloc (bw_refl _) _)) o3 o2).mono ?_
        rw [e3]
        rintro e w3 ⟨rfl, K⟩
        have FB := keep K (heap_new _ _)
        replace LB := keep K ((heap_old _ _ (blk_lt LB)).trans LB)
        replace RB := keep K ((heap_old _ _ (blk_lt RB)).trans RB)
        replace TH := keep K ((heap_old _ _ (blk_lt TH)).trans TH)
        replace H := bw_trans (bw_alloc H _) K
        clear t0 t1 t2 t3 t4 t5 l0 l1 K hs3
        have zf := blk_lt FB
        have zl3 := blk_lt LB
        obtain ⟨u0, u1⟩ := blk_2 FB
        obtain ⟨q0, q1, qf0, qf1⟩ := blkF LB
        go_wp2_with fail
        replace LB := setF2 LB (u0 := .int .i64 f3.1) (u1 := .int .i64 f3.2)
        replace RB := setO2 RB (b := w.heap.size + 2) (i := 0) (j := 1) (v := .int .i64 f3.1) (u := .int .i64 f3.2) (by omega)
        replace TH := setO2 TH (b := w.heap.size + 2) (i := 0) (j := 1) (v := .int .i64 f3.1) (u := .int .i64 f3.2) (by omega)
        replace H := bw_set (bw_set H (p := ⟨w.heap.size + 2, 0, none⟩) (by dsimp only; omega) (.int .i64 f3.1)) (p := ⟨w.heap.size + 2, 1, none⟩) (by dsimp only; omega) (.int .i64 f3.2)
        clear q0 q1 qf0 qf1 e3
        generalize ((w3.setCell ⟨w.heap.size + 2, 0, none⟩ (.int .i64 f3.1)).setCell ⟨w.heap.size + 2, 1, none⟩ (.int .i64 f3.2)) = V3 at LB RB TH H ⊢
        clear u0 u1 FB zf zl zl3 zt
        rw [rounds_succ]
        obtain ⟨l0, l1⟩ := blk_2 LB
        have zl := blk_lt LB
        have zr := blk_lt RB
        obtain ⟨q0, q1, qf0, qf1⟩ := blkF RB
        have R2 := setF2 RB (u0 := .int .i64 f3.1) (u1 := .int .i64 f3.2)
        obtain ⟨r0, r1⟩ := blk_2 R2
        have HB : Hid _ := H
        have e1 : Hid (mnA f0 f1 f2 f3 = f3) := by change _ = _; unfold mnA; rw [m1, m2, m3]
        clear R2 RB LB TH H m1 m2 m3
        go_wp2_with fail
        exact bodyPost_ret (v := .agg #[.int .i64 f3.1, .int .i64 f3.2]) (by simp [results, Tryd.results58, go_sem, r0, r1]) rfl ⟨by rw [e1.out], by repeat (first | with_reducible exact HB.out | with_reducible refine bw_set ?_ (by dsimp only; omega) _)⟩
      · have m3 : mn f2 f3 = f2 := if_neg c3
        have g3 := cmpI_ge _ _ c3
        generalize hx3 : cmpI (f3.1 * f2.2) (f2.1 * f3.2) = x3 at g3
        have HX3 : Hid (cmpI (f3.1 * f2.2) (f2.1 * f3.2) = x3) := hx3
        have p3 : 0 ≤ x3 := by omega
        clear hx3 g3
        clear c3
        go_wp2_with fail
        refine (fracCmp_both f3.1 f3.2 f2.1 f2.2 ad _ (hs3.below (bw_alloc (bw_refl _) _)) o3 o2).mono ?_
        rw [HX3.out]
        rintro e w3 ⟨rfl, K⟩
        have FB := keep K (heap_new _ _)
        replace LB := keep K ((heap_old _ _ (blk_lt LB)).trans LB)
        replace RB := keep K ((heap_old _ _ (blk_lt RB)).trans RB)
        replace TH := keep K ((heap_old _ _ (blk_lt TH)).trans TH)
        replace H := bw_trans (bw_alloc H _) K
        clear t0 t1 t2 t3 t4 t5 l0 l1 K hs3
        have zf := blk_lt FB
        have zl3 := blk_lt LB
        obtain ⟨u0, u1⟩ := blk_2 FB
        go_wp2_with fail
        clear u0 u1 FB zf zl zl3 zt
        rw [rounds_succ]
        obtain ⟨l0, l1⟩ := blk_2 LB
        have zl := blk_lt LB
        have zr := blk_lt RB
        obtain ⟨q0, q1, qf0, qf1⟩ := blkF RB
        have R2 := setF2 RB (u0 := .int .i64 f2.1) (u1 := .int .i64 f2.2)
        obtain ⟨r0, r1⟩ := blk_2 R2
        have HB : Hid _ := H
        have e1 : Hid (mnA f0 f1 f2 f3 = f2) := by change _ = _; unfold mnA; rw [m1, m2, m3]
        clear R2 RB LB TH H m1 m2 m3
        go_wp2_with fail
        exact bodyPost_ret (v := .agg #[.int .i64 f2.1, .int .i64 f2.2]) (by simp [results, Tryd.results58, go_sem, r0, r1]) rfl ⟨by rw [e1.out], by repeat (first | with_reducible exact HB.out | with_reducible refine bw_set ?_ (by dsimp only; omega) _)⟩
    · have m2 : mn f1 f2 = f1 := if_neg c2
      have g2 := cmpI_ge _ _ c2
      generalize hx2 : cmpI (f2.1 * f1.2) (f1.1 * f2.2) = x2 at g2
      have HX2 : Hid (cmpI (f2.1 * f1.2) (f1.1 * f2.2) = x2) := hx2
      have p2 : 0 ≤ x2 := by omega
      clear hx2 g2
      clear c2
      go_wp2_with fail
      refine (fracCmp_both f2.1 f2.2 f1.1 f1.2 ad _ (hs2.below (bw_alloc (bw_refl _) _)) o2 o1).mono ?_
      rw [HX2.out]
      rintro e w2 ⟨rfl, K⟩
      have FB := keep K (heap_new _ _)
      replace LB := keep K ((heap_old _ _ (blk_lt LB)).trans LB)
      replace RB := keep K ((heap_old _ _ (blk_lt RB)).trans RB)
      replace TH := keep K ((heap_old _ _ (blk_lt TH)).trans TH)
      replace H := bw_trans (bw_alloc H _) K
      clear t0 t1 t2 t3 t4 t5 l0 l1 K hs2
      have zf := blk_lt FB
      have zl2 := blk_lt LB
      obtain ⟨u0, u1⟩ := blk_2 FB
      go_wp2_with fail
      clear u0 u1 FB zf zl zl2 zt
      rw [rounds_succ]
      obtain ⟨t0, t1, t2, t3, t4, t5⟩ := blk_6 TH
      obtain ⟨l0, l1⟩ := blk_2 LB
      have zl := blk_lt LB
      have zt := blk_lt TH
      have hs3 := h0.below H
      by_cases c3 : f3.1 * f1.2 < f1.1 * f3.2
      · have m3 : mn f1 f3 = f3 := if_pos c3
        have e3 := cmpI_lt _ _ c3
        clear c3
        go_wp2_with fail
        refine (fracCmp_both f3.1 f3.2 f1.1 f1.2 ad _ (hs3.below (bw_alloc (bw_refl _) _)) o3 o1).mono ?_
        rw [e3]
        rintro e w3 ⟨rfl, K⟩
        have FB := keep K (heap_new _ _)
        replace LB := keep K ((heap_old _ _ (blk_lt LB)).trans LB)
        replace RB := keep K ((heap_old _ _ (blk_lt RB)).trans RB)
        replace TH := keep K ((heap_old _ _ (blk_lt TH)).trans TH)
        replace H := bw_trans (bw_alloc H _) K
        clear t0 t1 t2 t3 t4 t5 l0 l1 K hs3
        have zf := blk_lt FB
        have zl3 := blk_lt LB
        obtain ⟨u0, u1⟩ := blk_2 FB
        obtain ⟨q0, q1, qf0, qf1⟩ := blkF LB
        go_wp2_with fail
        replace LB := setF2 LB (u0 := .int .i64 f3.1) (u1 := .int .i64 f3.2)
        replace RB := setO2 RB (b := w.heap.size + 2) (i := 0) (j := 1) (v := .int .i64 f3.1) (u := .int .i64 f3.2) (by omega)
        replace TH := setO2 TH (b := w.heap.size + 2) (i := 0) (j := 1) (v := .int .i64 f3.1) (u := .int .i64 f3.2) (by omega)
        replace H := bw_set (bw_set H (p := ⟨w.heap.size + 2, 0, none⟩) (by dsimp only; omega) (.int .i64 f3.1)) (p := ⟨w.heap.size + 2, 1, none⟩) (by dsimp only; omega) (.int .i64 f3.2)
        clear q0 q1 qf0 qf1 e3
        generalize ((w3.setCell ⟨w.heap.size + 2, 0, none⟩ (.int .i64 f3.1)).setCell ⟨w.heap.size + 2, 1, none⟩ (.int .i64 f3.2)) = V3 at LB RB TH H ⊢
        clear u0 u1 FB zf zl zl3 zt
        rw [rounds_succ]
        obtain ⟨l0, l1⟩ := blk_2 LB
        have zl := blk_lt LB
        have zr := blk_lt RB
        obtain ⟨q0, q1, qf0, qf1⟩ := blkF RB
        have R2 := setF2 RB (u0 := .int .i64 f3.1) (u1 := .int .i64 f3.2)
        obtain ⟨r0, r1⟩ := blk_2 R2
        have HB : Hid _ := H
        have e1 : Hid (mnA f0 f1 f2 f3 = f3) := by change _ = _; unfold mnA; rw [m1, m2, m3]
        clear R2 RB LB TH H m1 m2 m3
        go_wp2_with fail
        exact bodyPost_ret (v := .agg #[.int .i64 f3.1, .int .i64 f3.2]) (by simp [results, Tryd.results58, go_sem, r0, r1]) rfl ⟨by rw [e1.out], by repeat (first | with_reducible exact HB.out | with_reducible refine bw_set ?_ (by dsimp only; omega) _)⟩
      · have m3 : mn f1 f3 = f1 := if_neg c3
        have g3 := cmpI_ge _ _ c3
        generalize hx3 : cmpI (f3.1 * f1.2) (f1.1 * f3.2) = x3 at g3
        have HX3 : Hid (cmpI (f3.1 * f1.2) (f1.1 * f3.2) = x3) := hx3
        have p3 : 0 ≤ x3 := by omega
        clear hx3 g3
        clear c3
        go_wp2_with fail
        refine (fracCmp_both f3.1 f3.2 f1.1 f1.2 ad _ (hs3.below (bw_alloc (bw_refl _) _)) o3 o1).mono ?_
        rw [HX3.out]
        rintro e w3 ⟨rfl, K⟩
        have FB := keep K (heap_new _ _)
        replace LB := keep K ((heap_old _ _ (blk_lt LB)).trans LB)
        replace RB := keep K ((heap_old _ _ (blk_lt RB)).trans RB)
        replace TH := keep K ((heap_old _ _ (blk_lt TH)).trans TH)
        replace H := bw_trans (bw_alloc H _) K
        clear t0 t1 t2 t3 t4 t5 l0 l1 K hs3
        have zf := blk_lt FB
        have zl3 := blk_lt LB
        obtain ⟨u0, u1⟩ := blk_2 FB
        go_wp2_with fail
        clear u0 u1 FB zf zl zl3 zt
        rw [rounds_succ]
        obtain ⟨l0, l1⟩ := blk_2 LB
        have zl := blk_lt LB
        have zr := blk_lt RB
        obtain ⟨q0, q1, qf0, qf1⟩ := blkF RB
        have R2 := setF2 RB (u0 := .int .i64 f1.1) (u1 := .int .i64 f1.2)
        obtain ⟨r0, r1⟩ := blk_2 R2
        have HB : Hid _ := H
        have e1 : Hid (mnA f0 f1 f2 f3 = f1) := by change _ = _; unfold mnA; rw [m1, m2, m3]
        clear R2 RB LB TH H m1 m2 m3
        go_wp2_with fail
        exact bodyPost_ret (v := .agg #[.int .i64 f1.1, .int .i64 f1.2]) (by simp [results, Tryd.results58, go_sem, r0, r1]) rfl ⟨by rw [e1.out], by repeat (first | with_reducible exact HB.out | with_reducible refine bw_set ?_ (by dsimp only; omega) _)⟩
  · have m1 : mn f0 f1 = f0 := if_neg c1
    have g1 := cmpI_ge _ _ c1
    generalize hx1 : cmpI (f1.1 * f0.2) (f0.1 * f1.2) = x1 at g1
    have HX1 : Hid (cmpI (f1.1 * f0.2) (f0.1 * f1.2) = x1) := hx1
    have p1 : 0 ≤ x1 := by omega
    clear hx1 g1
    clear c1
    go_wp2_with fail
    refine (fracCmp_both f1.1 f1.2 f0.1 f0.2 ad _ (hs1.below (bw_alloc (bw_refl _) _)) o1 o0).mono ?_
    rw [HX1.out]
    rintro e w1 ⟨rfl, K⟩
    have FB := keep K (heap_new _ _)
    replace LB := keep K ((heap_old _ _ (blk_lt LB)).trans LB)
    replace RB := keep K ((heap_old _ _ (blk_lt RB)).trans RB)
    replace TH := keep K ((heap_old _ _ (blk_lt TH)).trans TH)
    replace H := bw_trans (bw_alloc H _) K
    clear t0 t1 t2 t3 t4 t5 l0 l1 K hs1
    have zf := blk_lt FB
    have zl1 := blk_lt LB
    obtain ⟨u0, u1⟩ := blk_2 FB
    go_wp2_with fail
    clear u0 u1 FB zf zl zl1 zt
    rw [rounds_succ]
    obtain ⟨t0, t1, t2, t3, t4, t5⟩ := blk_6 TH
    obtain ⟨l0, l1⟩ := blk_2 LB
    have zl := blk_lt LB
    have zt := blk_lt TH
    have hs2 := h0.below H
    by_cases c2 : f2.1 * f0.2 < f0.1 * f2.2
    · have m2 : mn f0 f2 = f2 := if_pos c2
      have e2 := cmpI_lt _ _ c2
      clear c2
      go_wp2_with fail
      refine (fracCmp_both f2.1 f2.2 f0.1 f0.2 ad _ (hs2.below (bw_alloc (bw_refl _) _)) o2 o0).mono ?_
      rw [e2]
      rintro e w2 ⟨rfl, K⟩
      have FB := keep K (heap_new _ _)
      replace LB := keep K ((heap_old _ _ (blk_lt LB)).trans LB)
      replace RB := keep K ((heap_old _ _ (blk_lt RB)).trans RB)
      replace TH := keep K ((heap_old _ _ (blk_lt TH)).trans TH)
      replace H := bw_trans (bw_alloc H _) K
      clear t0 t1 t2 t3 t4 t5 l0 l1 K hs2
      have zf := blk_lt FB
      have zl2 := blk_lt LB
      obtain ⟨u0, u1⟩ := blk_2 FB
      obtain ⟨q0, q1, qf0, qf1⟩ := blkF LB
      go_wp2_with fail
      replace LB := setF2 LB (u0 := .int .i64 f2.1) (u1 := .int .i64 f2.2)
      replace RB := setO2 RB (b := w.heap.size + 2) (i := 0) (j := 1) (v := .int .i64 f2.1) (u := .int .i64 f2.2) (by omega)
      replace TH := setO2 TH (b := w.heap.size + 2) (i := 0) (j := 1) (v := .int .i64 f2.1) (u := .int .i64 f2.2) (by omega)
      replace H := bw_set (bw_set H (p := ⟨w.heap.size + 2, 0, none⟩) (by dsimp only; omega) (.int .i64 f2.1)) (p := ⟨w.heap.size + 2, 1, none⟩) (by dsimp only; omega) (.int .i64 f2.2)
      clear q0 q1 qf0 qf1 e2
      generalize ((w2.setCell ⟨w.heap.size + 2, 0, none⟩ (.int .i64 f2.1)).setCell ⟨w.heap.size + 2, 1, none⟩ (.int .i64 f2.2)) = V2 at LB RB TH H ⊢
      clear u0 u1 FB zf zl zl2 zt
      rw [rounds_succ]
      obtain ⟨t0, t1, t2, t3, t4, t5⟩ := blk_6 TH
      obtain ⟨l0, l1⟩ := blk_2 LB
      have zl := blk_lt LB
      have zt := blk_lt TH
      have hs3 := h0.below H
      by_cases c3 : f3.1 * f2.2 < f2.1 * f3.2
      · have m3 : mn f2 f3 = f3 := if_pos c3
        have e3 := cmpI_lt _ _ c3
        clear c3
        go_wp2_with fail
        refine (fracCmp_both f3.1 f3.2 f2.1 f2.2 ad _ (hs3.below (bw_alloc (bw_refl _) _)) o3 o2).mono ?_
        rw [e3]
        rintro e w3 ⟨rfl, K⟩
        have FB := keep K (heap_new _ _)
        replace LB := keep K ((heap_old _ _ (blk_lt LB)).trans LB)
        replace RB := keep K ((heap_old _ _ (blk_lt RB)).trans RB)
        replace TH := keep K ((heap_old _ _ (blk_lt TH)).trans TH)
        replace H := bw_trans (bw_alloc H _) K
        clear t0 t1 t2 t3 t4 t5 l0 l1 K hs3
        have zf := blk_lt FB
        have zl3 := blk_lt LB
        obtain ⟨u0, u1⟩ := blk_2 FB
        obtain ⟨q0, q1, qf0, qf1⟩ := blkF LB
        go_wp2_with fail
        replace LB := setF2 LB (u0 := .int .i64 f3.1) (u1 := .int .i64 f3.2)
        replace RB := setO2 RB (b := w.heap.size + 2) (i := 0) (j := 1) (v := .int .i64 f3.1) (u := .int .i64 f3.2) (by omega)
        replace TH := setO2 TH (b := w.heap.size + 2) (i := 0) (j := 1) (v := .int .i64 f3.1) (u := .int .i64 f3.2) (by omega)
        replace H := bw_set (bw_set H (p := ⟨w.heap.size + 2, 0, none⟩) (by dsimp only; omega) (.int .i64 f3.1)) (p := ⟨w.heap.size + 2, 1, none⟩) (by dsimp only; omega) (.int .i64 f3.2)
        clear q0 q1 qf0 qf1 e3
        generalize ((w3.setCell ⟨w.heap.size + 2, 0, none⟩ (.int .i64 f3.1)).setCell ⟨w.heap.size + 2, 1, none⟩ (.int .i64 f3.2)) = V3 at LB RB TH H ⊢
        clear u0 u1 FB zf zl zl3 zt
        rw [rounds_succ]
        obtain ⟨l0, l1⟩ := blk_2 LB
        have zl := blk_lt LB
        have zr := blk_lt RB
        obtain ⟨q0, q1, qf0, qf1⟩ := blkF RB
        have R2 := setF2 RB (u0 := .int .i64 f3.1) (u1 := .int .i64 f3.2)
        obtain ⟨r0, r1⟩ := blk_2 R2
        have HB : Hid _ := H
        have e1 : Hid (mnA f0 f1 f2 f3 = f3) := by change _ = _; unfold mnA; rw [m1, m2, m3]
        clear R2 RB LB TH H m1 m2 m3
        go_wp2_with fail
        exact bodyPost_ret (v := .agg #[.int .i64 f3.1, .int .i64 f3.2]) (by simp [results, Tryd.results58, go_sem, r0, r1]) rfl ⟨by rw [e1.out], by repeat (first | with_reducible exact HB.out | with_reducible refine bw_set ?_ (by dsimp only; omega) _)⟩
      · have m3 : mn f2 f3 = f2 := if_neg c3
        have g3 := cmpI_ge _ _ c3
        generalize hx3 : cmpI (f3.1 * f2.2) (f2.1 * f3.2) = x3 at g3
        have HX3 : Hid (cmpI (f3.1 * f2.2) (f2.1 * f3.2) = x3) := hx3
        have p3 : 0 ≤ x3 := by omega
        clear hx3 g3
        clear c3
        go_wp2_with fail
        refine (fracCmp_both f3.1 f3.2 f2.1 f2.2 ad _ (hs3.below (bw_alloc (bw_refl _) _)) o3 o2).mono ?_
        rw [HX3.out]
        rintro e w3 ⟨rfl, K⟩
        have FB := keep K (heap_new _ _)
        replace LB := keep K ((heap_old _ _ (blk_lt LB)).trans LB)
        replace RB := keep K ((heap_old _ _ (blk_lt RB)).trans RB)
        replace TH := keep K ((heap_old _ _ (blk_lt TH)).trans TH)
        replace H := bw_trans (bw_alloc H _) K
        clear t0 t1 t2 t3 t4 t5 l0 l1 K hs3
        have zf := blk_lt FB
        have zl3 := blk_lt LB
        obtain ⟨u0, u1⟩ := blk_2 FB
        go_wp2_with fail
        clear u0 u1 FB zf zl zl3 zt
        rw [rounds_succ]
        obtain ⟨l0, l1⟩ := blk_2 LB
        have zl := blk_lt LB
        have zr := blk_lt RB
        obtain ⟨q0, q1, qf0, qf1⟩ := blkF RB
        have R2 := setF2 RB (u0 := .int .i64 f2.1) (u1 := .int .i64 f2.2)
        obtain ⟨r0, r1⟩ := blk_2 R2
        have HB : Hid _ := H
        have e1 : Hid (mnA f0 f1 f2 f3 = f2) := by change _ = _; unfold mnA; rw [m1, m2, m3]
        clear R2 RB LB TH H m1 m2 m3
        go_wp2_with fail
        exact bodyPost_ret (v := .agg #[.int .i64 f2.1, .int .i64 f2.2]) (by simp [results, Tryd.results58, go_sem, r0, r1]) rfl ⟨by rw [e1.out], by repeat (first | with_reducible exact HB.out | with_reducible refine bw_set ?_ (by dsimp only; omega) _)⟩
    · have m2 : mn f0 f2 = f0 := if_neg c2
      have g2 := cmpI_ge _ _ c2
      generalize hx2 : cmpI (f2.1 * f0.2) (f0.1 * f2.2) = x2 at g2
      have HX2 : Hid (cmpI (f2.1 * f0.2) (f0.1 * f2.2) = x2) := hx2
      have p2 : 0 ≤ x2 := by omega
      clear hx2 g2
      clear c2
      go_wp2_with fail
      refine (fracCmp_both f2.1 f2.2 f0.1 f0.2 ad _ (hs2.below (bw_alloc (bw_refl _) _)) o2 o0).mono ?_
      rw [HX2.out]
      rintro e w2 ⟨rfl, K⟩
      have FB := keep K (heap_new _ _)
      replace LB := keep K ((heap_old _ _ (blk_lt LB)).trans LB)
      replace RB := keep K ((heap_old _ _ (blk_lt RB)).trans RB)
      replace TH := keep K ((heap_old _ _ (blk_lt TH)).trans TH)
      replace H := bw_trans (bw_alloc H _) K
      clear t0 t1 t2 t3 t4 t5 l0 l1 K hs2
      have zf := blk_lt FB
      have zl2 := blk_lt LB
      obtain ⟨u0, u1⟩ := blk_2 FB
      go_wp2_with fail
      clear u0 u1 FB zf zl zl2 zt
      rw [rounds_succ]
      obtain ⟨t0, t1, t2, t3, t4, t5⟩ := blk_6 TH
      obtain ⟨l0, l1⟩ := blk_2 LB
      have zl := blk_lt LB
      have zt := blk_lt TH
      have hs3 := h0.below H
      by_cases c3 : f3.1 * f0.2 < f0.1 * f3.2
      · have m3 : mn f0 f3 = f3 := if_pos c3
        have e3 := cmpI_lt _ _ c3
        clear c3
        go_wp2_with fail
        refine (fracCmp_both f3.1 f3.2 f0.1 f0.2 ad _ (hs3.below (bw_alloc (bw_refl _) _)) o3 o0).mono ?_
        rw [e3]
        rintro e w3 ⟨rfl, K⟩
        have FB := keep K (heap_new _ _)
        replace LB := keep K ((heap_old _ _ (blk_lt LB)).trans LB)
        replace RB := keep K ((heap_old _ _ (blk_lt RB)).trans RB)
        replace TH := keep K ((heap_old _ _ (blk_lt TH)).trans TH)
        replace H := bw_trans (bw_alloc H _) K
        clear t0 t1 t2 t3 t4 t5 l0 l1 K hs3
        have zf := blk_lt FB
        have zl3 := blk_lt LB
        obtain ⟨u0, u1⟩ := blk_2 FB
        obtain ⟨q0, q1, qf0, qf1⟩ := blkF LB
        go_wp2_with fail
        replace LB := setF2 LB (u0 := .int .i64 f3.1) (u1 := .int .i64 f3.2)
        replace RB := setO2 RB (b := w.heap.size + 2) (i := 0) (j := 1) (v := .int .i64 f3.1) (u := .int .i64 f3.2) (by omega)
        replace TH := setO2 TH (b := w.heap.size + 2) (i := 0) (j := 1) (v := .int .i64 f3.1) (u := .int .i64 f3.2) (by omega)
        replace H := bw_set (bw_set H (p := ⟨w.heap.size + 2, 0, none⟩) (by dsimp only; omega) (.int .i64 f3.1)) (p := ⟨w.heap.size + 2, 1, none⟩) (by dsimp only; omega) (.int .i64 f3.2)
        clear q0 q1 qf0 qf1 e3
        generalize ((w3.setCell ⟨w.heap.size + 2, 0, none⟩ (.int .i64 f3.1)).setCell ⟨w.heap.size + 2, 1, none⟩ (.int .i64 f3.2)) = V3 at LB RB TH H ⊢
        clear u0 u1 FB zf zl zl3 zt
        rw [rounds_succ]
        obtain ⟨l0, l1⟩ := blk_2 LB
        have zl := blk_lt LB
        have zr := blk_lt RB
        obtain ⟨q0, q1, qf0, qf1⟩ := blkF RB
        have R2 := setF2 RB (u0 := .int .i64 f3.1) (u1 := .int .i64 f3.2)
        obtain ⟨r0, r1⟩ := blk_2 R2
        have HB : Hid _ := H
        have e1 : Hid (mnA f0 f1 f2 f3 = f3) := by change _ = _; unfold mnA; rw [m1, m2, m3]
        clear R2 RB LB TH H m1 m2 m3
        go_wp2_with fail
        exact bodyPost_ret (v := .agg #[.int .i64 f3.1, .int .i64 f3.2]) (by simp [results, Tryd.results58, go_sem, r0, r1]) rfl ⟨by rw [e1.out], by repeat (first | with_reducible exact HB.out | with_reducible refine bw_set ?_ (by dsimp only; omega) _)⟩
      · have m3 : mn f0 f3 = f0 := if_neg c3
        have g3 := cmpI_ge _ _ c3
        generalize hx3 : cmpI (f3.1 * f0.2) (f0.1 * f3.2) = x3 at g3
        have HX3 : Hid (cmpI (f3.1 * f0.2) (f0.1 * f3.2) = x3) := hx3
        have p3 : 0 ≤ x3 := by omega
        clear hx3 g3
        clear c3
        go_wp2_with fail
        refine (fracCmp_both f3.1 f3.2 f0.1 f0.2 ad _ (hs3.below (bw_alloc (bw_refl _) _)) o3 o0).mono ?_
        rw [HX3.out]
        rintro e w3 ⟨rfl, K⟩
        have FB := keep K (heap_new _ _)
        replace LB := keep K ((heap_old _ _ (blk_lt LB)).trans LB)
        replace RB := keep K ((heap_old _ _ (blk_lt RB)).trans RB)
        replace TH := keep K ((heap_old _ _ (blk_lt TH)).trans TH)
        replace H := bw_trans (bw_alloc H _) K
        clear t0 t1 t2 t3 t4 t5 l0 l1 K hs3
        have zf := blk_lt FB
        have zl3 := blk_lt LB
        obtain ⟨u0, u1⟩ := blk_2 FB
        go_wp2_with fail
        clear u0 u1 FB zf zl zl3 zt
        rw [rounds_succ]
        obtain ⟨l0, l1⟩ := blk_2 LB
        have zl := blk_lt LB
        have zr := blk_lt RB
        obtain ⟨q0, q1, qf0, qf1⟩ := blkF RB
        have R2 := setF2 RB (u0 := .int .i64 f0.1) (u1 := .int .i64 f0.2)
        obtain ⟨r0, r1⟩ := blk_2 R2
        have HB : Hid _ := H
        have e1 : Hid (mnA f0 f1 f2 f3 = f0) := by change _ = _; unfold mnA; rw [m1, m2, m3]
        clear R2 RB LB TH H m1 m2 m3
        go_wp2_with fail
        exact bodyPost_ret (v := .agg #[.int .i64 f0.1, .int .i64 f0.2]) (by simp [results, Tryd.results58, go_sem, r0, r1]) rfl ⟨by rw [e1.out], by repeat (first | with_reducible exact HB.out | with_reducible refine bw_set ?_ (by dsimp only; omega) _)⟩
end Go.Proofs.YtmjbfocghlhecaaDoor
