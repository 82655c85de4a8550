/-
  OUR OWN TEXT. The law FnPlateInOver, for every input: the call returns true, and each argument reads as it did. Texts of ours, joined, so that the claim keeps to its number of files. Conditions: none but the row's own.
-/
import Derived.Test.YthdjeabjllaaaaaGreatDoorJFnPlateInOvera
import Derived.Test.YthdjeabjllaaaaaGreatDoorGeoApart
import Derived.Deep.RegionHeld3
import Derived.Test.YthdjeabjllaaaaaGreatDoorPlateI
import Derived.Test.YthdjeabjllaaaaaGreatDoorWhere
import Derived.Test.YthdjeabjllaaaaaGreatDoorBoard
import Derived.Test.YthdjeabjllaaaaaGreatDoorBoxes
import Derived.Test.YthdjeabjllaaaaaGreatDoorOk
import Derived.Test.YthdjeabjllaaaaaGreatDoorSEdge
import Derived.Test.YthdjeabjllaaaaaGreatDoorSOk
import Derived.Test.YthdjeabjllaaaaaGreatDoorSPlateOk
import Derived.Deep.DeepAppendWide
import Derived.Test.YthdjeabjllaaaaaGreatDoorGeo
import Derived.Test.YthdjeabjllaaaaaGreatDoorLoopT
import Derived.Test.YthdjeabjllaaaaaGreatDoorDrawPlate
import Derived.Test.YthdjeabjllaaaaaGreatDoorCards
import Derived.Test.YthdjeabjllaaaaaGreatDoorTie
import Derived.ProofKit
import Derived.OpenShut
import Derived.LaidMore
import Derived.MakeChecks
import Derived.Stop.Joined
import Derived.Stop.LaidErr
import Derived.WalkSmall
import Derived.ChangeOld
import Derived.Lib.SmallJoins
namespace Go.Proofs.YthdjeabjllaaaaaGreatDoor
open Go.RowKit Go.Sort

theorem cmpI_lt (x y : Int) (h : x < y) : cmpI x y = -1 := by unfold cmpI; rw [if_pos h]
theorem cmpI_ge (x y : Int) (h : ¬ x < y) : ¬ cmpI x y < 0 := by unfold cmpI; rw [if_neg h]; split <;> omega
set_option maxHeartbeats 1000000 in
theorem sLeast_ok (f g : Int × Int) (w : World) (hf : OkF f) (hg : OkF g) :
    Calls Tryz.prog 38 #[.agg #[.int .i64 f.1, .int .i64 f.2], .agg #[.int .i64 g.1, .int .i64 g.2]] w fun e w' => e = .returned (.agg #[.int .i64 (mn f g).1, .int .i64 (mn f g).2]) ∧ Below w.heap.size w w' := by
  unfold OkF at hf hg
  obtain ⟨n, d⟩ := f
  obtain ⟨m, b⟩ := g
  unfold mn
  by_cases h : m * d < n * b
  · rw [if_pos h]
    have e := cmpI_lt _ _ h
    clear h
    go_enter Tryz.func38, Tryz.ntmps38
    go_wp2_with fail
    refine (l1Cmp_any _ _ _ _ _ hg hf).mono ?_
    rw [e]
    rintro e w1 ⟨rfl, J⟩
    obtain ⟨hc, hf⟩ := bcell J
    have HB : Hid (Below w.heap.size w w1) := bw_trans (by repeat (first | exact bw_refl _ | assumption | apply bw_drewN | apply bw_drew | apply bw_alloc | refine bw_set ?_ (by simp) _)) J
    have hz := J.size
    simp at hz
    have hz' : w.heap.size + 2 < w1.heap.size := by omega
    clear hz J
    go_wp2_with fail
    exact bodyPost_ret (v := .agg #[.int .i64 m, .int .i64 b]) (by simp [results, Tryz.results38, go_sem, hc]) rfl ⟨rfl, by repeat (first | with_reducible exact HB.out | with_reducible refine bw_set ?_ (by dsimp only; omega) _)⟩
  · rw [if_neg h]
    have e := cmpI_ge _ _ h
    clear h
    generalize hx : cmpI (m * d) (n * b) = x at e
    have hx' : Hid (cmpI (m * d) (n * b) = x) := hx
    clear hx
    have e' : 0 ≤ x := by omega
    clear e
    go_enter Tryz.func38, Tryz.ntmps38
    go_wp2_with fail
    refine (l1Cmp_any _ _ _ _ _ hg hf).mono ?_
    rw [hx'.out]
    rintro e w1 ⟨rfl, J⟩
    obtain ⟨hc, hf⟩ := bcell J
    have HB : Hid (Below w.heap.size w w1) := bw_trans (by repeat (first | exact bw_refl _ | assumption | apply bw_drewN | apply bw_drew | apply bw_alloc | refine bw_set ?_ (by simp) _)) J
    have hz := J.size
    simp at hz
    have hz' : w.heap.size + 2 < w1.heap.size := by omega
    clear hz J
    go_wp2_with fail
    exact bodyPost_ret (v := .agg #[.int .i64 n, .int .i64 d]) (by simp [results, Tryz.results38, go_sem, hc]) rfl ⟨rfl, by repeat (first | with_reducible exact HB.out | with_reducible refine bw_set ?_ (by dsimp only; omega) _)⟩
/-- The block of three fractions. -/
def Three (w : World) (b : Nat) (f g h : Int × Int) : Prop := w.heap[b]? = some (.cells #[.int .i64 f.1, .int .i64 f.2, .int .i64 g.1, .int .i64 g.2, .int .i64 h.1, .int .i64 h.2] 32 (0, 0))
theorem setO2 {w : World} {b b' i j : Nat} {v u : Value} {o : Obj} (h : w.heap[b']? = some o) (hne : b' ≠ b) : ((w.setCell ⟨b, i, none⟩ v).setCell ⟨b, j, none⟩ u).heap[b']? = some o := by
  rw [Below.heap_setCell _ _ _ _ (by show b' ≠ b; exact hne), Below.heap_setCell _ _ _ _ (by show b' ≠ b; exact hne)]; exact h
theorem blk_6 {w : World} {b : Nat} {x0 x1 x2 x3 x4 x5 : Value} {t : TypeId} (h : w.heap[b]? = some (.cells #[x0, x1, x2, x3, x4, x5] t (0, 0))) :
    w.cell? ⟨b, 0, none⟩ = some x0 ∧ w.cell? ⟨b, 1, none⟩ = some x1 ∧ w.cell? ⟨b, 2, none⟩ = some x2 ∧ w.cell? ⟨b, 3, none⟩ = some x3 ∧ w.cell? ⟨b, 4, none⟩ = some x4 ∧ w.cell? ⟨b, 5, none⟩ = some x5 := by
  refine ⟨?_, ?_, ?_, ?_, ?_, ?_⟩ <;> simp [World.cell?, h]
set_option maxHeartbeats 2000000 in
theorem least_ok (f0 f1 f2 f3 : Int × Int) (bs : Nat) (ad : Addr) (w : World) (h0 : Sent ad w) (o0 : OkF f0) (o1 : OkF f1) (o2 : OkF f2) (o3 : OkF f3) (TH : Three w bs f1 f2 f3) :
    Calls Tryz.prog 36 #[.agg #[.int .i64 f0.1, .int .i64 f0.2], .slice (some ⟨bs, 0, none⟩) 3 3] w fun e w' => e = .returned (.agg #[.int .i64 (mnA f0 f1 f2 f3).1, .int .i64 (mnA f0 f1 f2 f3).2]) ∧ Below w.heap.size w w' := by
  unfold Three at TH
  have zb := blk_lt TH
  obtain ⟨W, hW, H, _, RB, LB⟩ := boxes3 w (.cells #[.int .i64 f0.1, .int .i64 f0.2] 32) (.cells #[.int .i64 0, .int .i64 0] 32) (.cells #[.int .i64 f0.1, .int .i64 f0.2] 32)
  replace TH := keep H TH
  have nb : bs ≠ w.heap.size + 1 ∧ bs ≠ w.heap.size + 2 := by omega
  obtain ⟨nb1, nb2⟩ := nb
  go_enter Tryz.func36, Tryz.ntmps36
  go_upto_region 3 with fail
  rw [← hW]
  clear hW
  refine wp_loop_rounds 4 ?_
  rw [rounds_succ]
  obtain ⟨t0, t1, t2, t3, t4, t5⟩ := blk_6 TH
  obtain ⟨l0, l1⟩ := blk_2 LB
  have zl := blk_lt LB
  have zt := blk_lt TH
  have hs1 := h0.below H
  by_cases c1 : f1.1 * f0.2 < f0.1 * f1.2
  · have m1 : mn f0 f1 = f1 := if_pos c1
    have e1 := cmpI_lt _ _ c1
    clear c1
    go_wp2_with fail
    refine (fracCmp_both f1.1 f1.2 f0.1 f0.2 ad _ (hs1.below (bw_alloc (bw_refl _) _)) o1 o0).mono ?_
    rw [e1]
    rintro e w1 ⟨rfl, K⟩
    have FB := keep K (heap_new _ _)
    replace LB := keep K ((heap_old _ _ (blk_lt LB)).trans LB)
    replace RB := keep K ((heap_old _ _ (blk_lt RB)).trans RB)
    replace TH := keep K ((heap_old _ _ (blk_lt TH)).trans TH)
    replace H := bw_trans (bw_alloc H _) K
    clear t0 t1 t2 t3 t4 t5 l0 l1 K hs1
    have zf := blk_lt FB
    have zl1 := blk_lt LB
    obtain ⟨u0, u1⟩ := blk_2 FB
    obtain ⟨q0, q1, qf0, qf1⟩ := blkF LB
    go_wp2_with fail
    replace LB := setF2 LB (u0 := .int .i64 f1.1) (u1 := .int .i64 f1.2)
    replace RB := setO2 RB (b := w.heap.size + 2) (i := 0) (j := 1) (v := .int .i64 f1.1) (u := .int .i64 f1.2) (by omega)
    replace TH := setO2 TH (b := w.heap.size + 2) (i := 0) (j := 1) (v := .int .i64 f1.1) (u := .int .i64 f1.2) (by omega)
    replace H := bw_set (bw_set H (p := ⟨w.heap.size + 2, 0, none⟩) (by dsimp only; omega) (.int .i64 f1.1)) (p := ⟨w.heap.size + 2, 1, none⟩) (by dsimp only; omega) (.int .i64 f1.2)
    clear q0 q1 qf0 qf1 e1
    generalize ((w1.setCell ⟨w.heap.size + 2, 0, none⟩ (.int .i64 f1.1)).setCell ⟨w.heap.size + 2, 1, none⟩ (.int .i64 f1.2)) = V1 at LB RB TH H ⊢
    clear u0 u1 FB zf zl zl1 zt
    rw [rounds_succ]
    obtain ⟨t0, t1, t2, t3, t4, t5⟩ := blk_6 TH
    obtain ⟨l0, l1⟩ := blk_2 LB
    have zl := blk_lt LB
    have zt := blk_lt TH
    have hs2 := h0.below H
    by_cases c2 : f2.1 * f1.2 < f1.1 * f2.2
    · have m2 : mn f1 f2 = f2 := if_pos c2
      have e2 := cmpI_lt _ _ c2
      clear c2
      go_wp2_with fail
      refine (fracCmp_both f2.1 f2.2 f1.1 f1.2 ad _ (hs2.below (bw_alloc (bw_refl _) _)) o2 o1).mono ?_
      rw [e2]
      rintro e w2 ⟨rfl, K⟩
      have FB := keep K (heap_new _ _)
      replace LB := keep K ((heap_old _ _ (blk_lt LB)).trans LB)
      replace RB := keep K ((heap_old _ _ (blk_lt RB)).trans RB)
      replace TH := keep K ((heap_old _ _ (blk_lt TH)).trans TH)
      replace H := bw_trans (bw_alloc H _) K
      clear t0 t1 t2 t3 t4 t5 l0 l1 K hs2
      have zf := blk_lt FB
      have zl2 := blk_lt LB
      obtain ⟨u0, u1⟩ := blk_2 FB
      obtain ⟨q0, q1, qf0, qf1⟩ := blkF LB
      go_wp2_with fail
      replace LB := setF2 LB (u0 := .int .i64 f2.1) (u1 := .int .i64 f2.2)
      replace RB := setO2 RB (b := w.heap.size + 2) (i := 0) (j := 1) (v := .int .i64 f2.1) (u := .int .i64 f2.2) (by omega)
      replace TH := setO2 TH (b := w.heap.size + 2) (i := 0) (j := 1) (v := .int .i64 f2.1) (u := .int .i64 f2.2) (by omega)
      replace H := bw_set (bw_set H (p := ⟨w.heap.size + 2, 0, none⟩) (by dsimp only; omega) (.int .i64 f2.1)) (p := ⟨w.heap.size + 2, 1, none⟩) (by dsimp only; omega) (.int .i64 f2.2)
      clear q0 q1 qf0 qf1 e2
      generalize ((w2.setCell ⟨w.heap.size + 2, 0, none⟩ (.int .i64 f2.1)).setCell ⟨w.heap.size + 2, 1, none⟩ (.int .i64 f2.2)) = V2 at LB RB TH H ⊢
      clear u0 u1 FB zf zl zl2 zt
      rw [rounds_succ]
      obtain ⟨t0, t1, t2, t3, t4, t5⟩ := blk_6 TH
      obtain ⟨l0, l1⟩ := blk_2 LB
      have zl := blk_lt LB
      have zt := blk_lt TH
      have hs3 := h0.below H
      by_cases c3 : f3.1 * f2.2 < f2.1 * f3.2
      · have m3 : mn f2 f3 = f3 := if_pos c3
        have e3 := cmpI_lt _ _ c3
        clear c3
        go_wp2_with fail
        refine (fracCmp_both f3.1 f3.2 f2.1 f2.2 ad _ (hs3.below (bw_alloc (bw_refl _) _)) o3 o2).mono ?_
        rw [e3]
        rintro e w3 ⟨rfl, K⟩
        have FB := keep K (heap_new _ _)
        replace LB := keep K ((heap_old _ _ (blk_lt LB)).trans LB)
        replace RB := keep K ((heap_old _ _ (blk_lt RB)).trans RB)
        replace TH := keep K ((heap_old _ _ (blk_lt TH)).trans TH)
        replace H := bw_trans (bw_alloc H _) K
        clear t0 t1 t2 t3 t4 t5 l0 l1 K hs3
        have zf := blk_lt FB
        have zl3 := blk_lt LB
        obtain ⟨u0, u1⟩ := blk_2 FB
        obtain ⟨q0, q1, qf0, qf1⟩ := blkF LB
        go_wp2_with fail
        replace LB := setF2 LB (u0 := .int .i64 f3.1) (u1 := .int .i64 f3.2)
        replace RB := setO2 RB (b := w.heap.size + 2) (i := 0) (j := 1) (v := .int .i64 f3.1) (u := .int .i64 f3.2) (by omega)
        replace TH := setO2 TH (b := w.heap.size + 2) (i := 0) (j := 1) (v := .int .i64 f3.1) (u := .int .i64 f3.2) (by omega)
        replace H := bw_set (bw_set H (p := ⟨w.heap.size + 2, 0, none⟩) (by dsimp only; omega) (.int .i64 f3.1)) (p := ⟨w.heap.size + 2, 1, none⟩) (by dsimp only; omega) (.int .i64 f3.2)
        clear q0 q1 qf0 qf1 e3
        generalize ((w3.setCell ⟨w.heap.size + 2, 0, none⟩ (.int .i64 f3.1)).setCell ⟨w.heap.size + 2, 1, none⟩ (.int .i64 f3.2)) = V3 at LB RB TH H ⊢
        clear u0 u1 FB zf zl zl3 zt
        rw [rounds_succ]
        obtain ⟨l0, l1⟩ := blk_2 LB
        have zl := blk_lt LB
        have zr := blk_lt RB
        obtain ⟨q0, q1, qf0, qf1⟩ := blkF RB
        have R2 := setF2 RB (u0 := .int .i64 f3.1) (u1 := .int .i64 f3.2)
        obtain ⟨r0, r1⟩ := blk_2 R2
        have HB : Hid _ := H
        have e1 : Hid (mnA f0 f1 f2 f3 = f3) := by change _ = _; unfold mnA; rw [m1, m2, m3]
        clear R2 RB LB TH H m1 m2 m3
        go_wp2_with fail
        exact bodyPost_ret (v := .agg #[.int .i64 f3.1, .int .i64 f3.2]) (by simp [results, Tryz.results36, go_sem, r0, r1]) rfl ⟨by rw [e1.out], by repeat (first | with_reducible exact HB.out | with_reducible refine bw_set ?_ (by dsimp only; omega) _)⟩
      · have m3 : mn f2 f3 = f2 := if_neg c3
        have g3 := cmpI_ge _ _ c3
        generalize hx3 : cmpI (f3.1 * f2.2) (f2.1 * f3.2) = x3 at g3
        have HX3 : Hid (cmpI (f3.1 * f2.2) (f2.1 * f3.2) = x3) := hx3
        have p3 : 0 ≤ x3 := by omega
        clear hx3 g3
        clear c3
        go_wp2_with fail
        refine (fracCmp_both f3.1 f3.2 f2.1 f2.2 ad _ (hs3.below (bw_alloc (bw_refl _) _)) o3 o2).mono ?_
        rw [HX3.out]
        rintro e w3 ⟨rfl, K⟩
        have FB := keep K (heap_new _ _)
        replace LB := keep K ((heap_old _ _ (blk_lt LB)).trans LB)
        replace RB := keep K ((heap_old _ _ (blk_lt RB)).trans RB)
        replace TH := keep K ((heap_old _ _ (blk_lt TH)).trans TH)
        replace H := bw_trans (bw_alloc H _) K
        clear t0 t1 t2 t3 t4 t5 l0 l1 K hs3
        have zf := blk_lt FB
        have zl3 := blk_lt LB
        obtain ⟨u0, u1⟩ := blk_2 FB
        go_wp2_with fail
        clear u0 u1 FB zf zl zl3 zt
        rw [rounds_succ]
        obtain ⟨l0, l1⟩ := blk_2 LB
        have zl := blk_lt LB
        have zr := blk_lt RB
        obtain ⟨q0, q1, qf0, qf1⟩ := blkF RB
        have R2 := setF2 RB (u0 := .int .i64 f2.1) (u1 := .int .i64 f2.2)
        obtain ⟨r0, r1⟩ := blk_2 R2
        have HB : Hid _ := H
        have e1 : Hid (mnA f0 f1 f2 f3 = f2) := by change _ = _; unfold mnA; rw [m1, m2, m3]
        clear R2 RB LB TH H m1 m2 m3
        go_wp2_with fail
        exact bodyPost_ret (v := .agg #[.int .i64 f2.1, .int .i64 f2.2]) (by simp [results, Tryz.results36, go_sem, r0, r1]) rfl ⟨by rw [e1.out], by repeat (first | with_reducible exact HB.out | with_reducible refine bw_set ?_ (by dsimp only; omega) _)⟩
    · have m2 : mn f1 f2 = f1 := if_neg c2
      have g2 := cmpI_ge _ _ c2
      generalize hx2 : cmpI (f2.1 * f1.2) (f1.1 * f2.2) = x2 at g2
      have HX2 : Hid (cmpI (f2.1 * f1.2) (f1.1 * f2.2) = x2) := hx2
      have p2 : 0 ≤ x2 := by omega
      clear hx2 g2
      clear c2
      go_wp2_with fail
      refine (fracCmp_both f2.1 f2.2 f1.1 f1.2 ad _ (hs2.below (bw_alloc (bw_refl _) _)) o2 o1).mono ?_
      rw [HX2.out]
      rintro e w2 ⟨rfl, K⟩
      have FB := keep K (heap_new _ _)
      replace LB := keep K ((heap_old _ _ (blk_lt LB)).trans LB)
      replace RB := keep K ((heap_old _ _ (blk_lt RB)).trans RB)
      replace TH := keep K ((heap_old _ _ (blk_lt TH)).trans TH)
      replace H := bw_trans (bw_alloc H _) K
      clear t0 t1 t2 t3 t4 t5 l0 l1 K hs2
      have zf := blk_lt FB
      have zl2 := blk_lt LB
      obtain ⟨u0, u1⟩ := blk_2 FB
      go_wp2_with fail
      clear u0 u1 FB zf zl zl2 zt
      rw [rounds_succ]
      obtain ⟨t0, t1, t2, t3, t4, t5⟩ := blk_6 TH
      obtain ⟨l0, l1⟩ := blk_2 LB
      have zl := blk_lt LB
      have zt := blk_lt TH
      have hs3 := h0.below H
      by_cases c3 : f3.1 * f1.2 < f1.1 * f3.2
      · have m3 : mn f1 f3 = f3 := if_pos c3
        have e3 := cmpI_lt _ _ c3
        clear c3
        go_wp2_with fail
        refine (fracCmp_both f3.1 f3.2 f1.1 f1.2 ad _ (hs3.below (bw_alloc (bw_refl _) _)) o3 o1).mono ?_
        rw [e3]
        rintro e w3 ⟨rfl, K⟩
        have FB := keep K (heap_new _ _)
        replace LB := keep K ((heap_old _ _ (blk_lt LB)).trans LB)
        replace RB := keep K ((heap_old _ _ (blk_lt RB)).trans RB)
        replace TH := keep K ((heap_old _ _ (blk_lt TH)).trans TH)
        replace H := bw_trans (bw_alloc H _) K
        clear t0 t1 t2 t3 t4 t5 l0 l1 K hs3
        have zf := blk_lt FB
        have zl3 := blk_lt LB
        obtain ⟨u0, u1⟩ := blk_2 FB
        obtain ⟨q0, q1, qf0, qf1⟩ := blkF LB
        go_wp2_with fail
        replace LB := setF2 LB (u0 := .int .i64 f3.1) (u1 := .int .i64 f3.2)
        replace RB := setO2 RB (b := w.heap.size + 2) (i := 0) (j := 1) (v := .int .i64 f3.1) (u := .int .i64 f3.2) (by omega)
        replace TH := setO2 TH (b := w.heap.size + 2) (i := 0) (j := 1) (v := .int .i64 f3.1) (u := .int .i64 f3.2) (by omega)
        replace H := bw_set (bw_set H (p := ⟨w.heap.size + 2, 0, none⟩) (by dsimp only; omega) (.int .i64 f3.1)) (p := ⟨w.heap.size + 2, 1, none⟩) (by dsimp only; omega) (.int .i64 f3.2)
        clear q0 q1 qf0 qf1 e3
        generalize ((w3.setCell ⟨w.heap.size + 2, 0, none⟩ (.int .i64 f3.1)).setCell ⟨w.heap.size + 2, 1, none⟩ (.int .i64 f3.2)) = V3 at LB RB TH H ⊢
        clear u0 u1 FB zf zl zl3 zt
        rw [rounds_succ]
        obtain ⟨l0, l1⟩ := blk_2 LB
        have zl := blk_lt LB
        have zr := blk_lt RB
        obtain ⟨q0, q1, qf0, qf1⟩ := blkF RB
        have R2 := setF2 RB (u0 := .int .i64 f3.1) (u1 := .int .i64 f3.2)
        obtain ⟨r0, r1⟩ := blk_2 R2
        have HB : Hid _ := H
        have e1 : Hid (mnA f0 f1 f2 f3 = f3) := by change _ = _; unfold mnA; rw [m1, m2, m3]
        clear R2 RB LB TH H m1 m2 m3
        go_wp2_with fail
        exact bodyPost_ret (v := .agg #[.int .i64 f3.1, .int .i64 f3.2]) (by simp [results, Tryz.results36, go_sem, r0, r1]) rfl ⟨by rw [e1.out], by repeat (first | with_reducible exact HB.out | with_reducible refine bw_set ?_ (by dsimp only; omega) _)⟩
      · have m3 : mn f1 f3 = f1 := if_neg c3
        have g3 := cmpI_ge _ _ c3
        generalize hx3 : cmpI (f3.1 * f1.2) (f1.1 * f3.2) = x3 at g3
        have HX3 : Hid (cmpI (f3.1 * f1.2) (f1.1 * f3.2) = x3) := hx3
        have p3 : 0 ≤ x3 := by omega
        clear hx3 g3
        clear c3
        go_wp2_with fail
        refine (fracCmp_both f3.1 f3.2 f1.1 f1.2 ad _ (hs3.below (bw_alloc (bw_refl _) _)) o3 o1).mono ?_
        rw [HX3.out]
        rintro e w3 ⟨rfl, K⟩
        have FB := keep K (heap_new _ _)
        replace LB := keep K ((heap_old _ _ (blk_lt LB)).trans LB)
        replace RB := keep K ((heap_old _ _ (blk_lt RB)).trans RB)
        replace TH := keep K ((heap_old _ _ (blk_lt TH)).trans TH)
        replace H := bw_trans (bw_alloc H _) K
        clear t0 t1 t2 t3 t4 t5 l0 l1 K hs3
        have zf := blk_lt FB
        have zl3 := blk_lt LB
        obtain ⟨u0, u1⟩ := blk_2 FB
        go_wp2_with fail
        clear u0 u1 FB zf zl zl3 zt
        rw [rounds_succ]
        obtain ⟨l0, l1⟩ := blk_2 LB
        have zl := blk_lt LB
        have zr := blk_lt RB
        obtain ⟨q0, q1, qf0, qf1⟩ := blkF RB
        have R2 := setF2 RB (u0 := .int .i64 f1.1) (u1 := .int .i64 f1.2)
        obtain ⟨r0, r1⟩ := blk_2 R2
        have HB : Hid _ := H
        have e1 : Hid (mnA f0 f1 f2 f3 = f1) := by change _ = _; unfold mnA; rw [m1, m2, m3]
        clear R2 RB LB TH H m1 m2 m3
        go_wp2_with fail
        exact bodyPost_ret (v := .agg #[.int .i64 f1.1, .int .i64 f1.2]) (by simp [results, Tryz.results36, go_sem, r0, r1]) rfl ⟨by rw [e1.out], by repeat (first | with_reducible exact HB.out | with_reducible refine bw_set ?_ (by dsimp only; omega) _)⟩
  · have m1 : mn f0 f1 = f0 := if_neg c1
    have g1 := cmpI_ge _ _ c1
    generalize hx1 : cmpI (f1.1 * f0.2) (f0.1 * f1.2) = x1 at g1
    have HX1 : Hid (cmpI (f1.1 * f0.2) (f0.1 * f1.2) = x1) := hx1
    have p1 : 0 ≤ x1 := by omega
    clear hx1 g1
    clear c1
    go_wp2_with fail
    refine (fracCmp_both f1.1 f1.2 f0.1 f0.2 ad _ (hs1.below (bw_alloc (bw_refl _) _)) o1 o0).mono ?_
    rw [HX1.out]
    rintro e w1 ⟨rfl, K⟩
    have FB := keep K (heap_new _ _)
    replace LB := keep K ((heap_old _ _ (blk_lt LB)).trans LB)
    replace RB := keep K ((heap_old _ _ (blk_lt RB)).trans RB)
    replace TH := keep K ((heap_old _ _ (blk_lt TH)).trans TH)
    replace H := bw_trans (bw_alloc H _) K
    clear t0 t1 t2 t3 t4 t5 l0 l1 K hs1
    have zf := blk_lt FB
    have zl1 := blk_lt LB
    obtain ⟨u0, u1⟩ := blk_2 FB
    go_wp2_with fail
    clear u0 u1 FB zf zl zl1 zt
    rw [rounds_succ]
    obtain ⟨t0, t1, t2, t3, t4, t5⟩ := blk_6 TH
    obtain ⟨l0, l1⟩ := blk_2 LB
    have zl := blk_lt LB
    have zt := blk_lt TH
    have hs2 := h0.below H
    by_cases c2 : f2.1 * f0.2 < f0.1 * f2.2
    · have m2 : mn f0 f2 = f2 := if_pos c2
      have e2 := cmpI_lt _ _ c2
      clear c2
      go_wp2_with fail
      refine (fracCmp_both f2.1 f2.2 f0.1 f0.2 ad _ (hs2.below (bw_alloc (bw_refl _) _)) o2 o0).mono ?_
      rw [e2]
      rintro e w2 ⟨rfl, K⟩
      have FB := keep K (heap_new _ _)
      replace LB := keep K ((heap_old _ _ (blk_lt LB)).trans LB)
      replace RB := keep K ((heap_old _ _ (blk_lt RB)).trans RB)
      replace TH := keep K ((heap_old _ _ (blk_lt TH)).trans TH)
      replace H := bw_trans (bw_alloc H _) K
      clear t0 t1 t2 t3 t4 t5 l0 l1 K hs2
      have zf := blk_lt FB
      have zl2 := blk_lt LB
      obtain ⟨u0, u1⟩ := blk_2 FB
      obtain ⟨q0, q1, qf0, qf1⟩ := blkF LB
      go_wp2_with fail
      replace LB := setF2 LB (u0 := .int .i64 f2.1) (u1 := .int .i64 f2.2)
      replace RB := setO2 RB (b := w.heap.size + 2) (i := 0) (j := 1) (v := .int .i64 f2.1) (u := .int .i64 f2.2) (by omega)
      replace TH := setO2 TH (b := w.heap.size + 2) (i := 0) (j := 1) (v := .int .i64 f2.1) (u := .int .i64 f2.2) (by omega)
      replace H := bw_set (bw_set H (p := ⟨w.heap.size + 2, 0, none⟩) (by dsimp only; omega) (.int .i64 f2.1)) (p := ⟨w.heap.size + 2, 1, none⟩) (by dsimp only; omega) (.int .i64 f2.2)
      clear q0 q1 qf0 qf1 e2
      generalize ((w2.setCell ⟨w.heap.size + 2, 0, none⟩ (.int .i64 f2.1)).setCell ⟨w.heap.size + 2, 1, none⟩ (.int .i64 f2.2)) = V2 at LB RB TH H ⊢
      clear u0 u1 FB zf zl zl2 zt
      rw [rounds_succ]
      obtain ⟨t0, t1, t2, t3, t4, t5⟩ := blk_6 TH
      obtain ⟨l0, l1⟩ := blk_2 LB
      have zl := blk_lt LB
      have zt := blk_lt TH
      have hs3 := h0.below H
      by_cases c3 : f3.1 * f2.2 < f2.1 * f3.2
      · have m3 : mn f2 f3 = f3 := if_pos c3
        have e3 := cmpI_lt _ _ c3
        clear c3
        go_wp2_with fail
        refine (fracCmp_both f3.1 f3.2 f2.1 f2.2 ad _ (hs3.below (bw_alloc (bw_refl _) _)) o3 o2).mono ?_
        rw [e3]
        rintro e w3 ⟨rfl, K⟩
        have FB := keep K (heap_new _ _)
        replace LB := keep K ((heap_old _ _ (blk_lt LB)).trans LB)
        replace RB := keep K ((heap_old _ _ (blk_lt RB)).trans RB)
        replace TH := keep K ((heap_old _ _ (blk_lt TH)).trans TH)
        replace H := bw_trans (bw_alloc H _) K
        clear t0 t1 t2 t3 t4 t5 l0 l1 K hs3
        have zf := blk_lt FB
        have zl3 := blk_lt LB
        obtain ⟨u0, u1⟩ := blk_2 FB
        obtain ⟨q0, q1, qf0, qf1⟩ := blkF LB
        go_wp2_with fail
        replace LB := setF2 LB (u0 := .int .i64 f3.1) (u1 := .int .i64 f3.2)
        replace RB := setO2 RB (b := w.heap.size + 2) (i := 0) (j := 1) (v := .int .i64 f3.1) (u := .int .i64 f3.2) (by omega)
        replace TH := setO2 TH (b := w.heap.size + 2) (i := 0) (j := 1) (v := .int .i64 f3.1) (u := .int .i64 f3.2) (by omega)
        replace H := bw_set (bw_set H (p := ⟨w.heap.size + 2, 0, none⟩) (by dsimp only; omega) (.int .i64 f3.1)) (p := ⟨w.heap.size + 2, 1, none⟩) (by dsimp only; omega) (.int .i64 f3.2)
        clear q0 q1 qf0 qf1 e3
        generalize ((w3.setCell ⟨w.heap.size + 2, 0, none⟩ (.int .i64 f3.1)).setCell ⟨w.heap.size + 2, 1, none⟩ (.int .i64 f3.2)) = V3 at LB RB TH H ⊢
        clear u0 u1 FB zf zl zl3 zt
        rw [rounds_succ]
        obtain ⟨l0, l1⟩ := blk_2 LB
        have zl := blk_lt LB
        have zr := blk_lt RB
        obtain ⟨q0, q1, qf0, qf1⟩ := blkF RB
        have R2 := setF2 RB (u0 := .int .i64 f3.1) (u1 := .int .i64 f3.2)
        obtain ⟨r0, r1⟩ := blk_2 R2
        have HB : Hid _ := H
        have e1 : Hid (mnA f0 f1 f2 f3 = f3) := by change _ = _; unfold mnA; rw [m1, m2, m3]
        clear R2 RB LB TH H m1 m2 m3
        go_wp2_with fail
        exact bodyPost_ret (v := .agg #[.int .i64 f3.1, .int .i64 f3.2]) (by simp [results, Tryz.results36, go_sem, r0, r1]) rfl ⟨by rw [e1.out], by repeat (first | with_reducible exact HB.out | with_reducible refine bw_set ?_ (by dsimp only; omega) _)⟩
      · have m3 : mn f2 f3 = f2 := if_neg c3
        have g3 := cmpI_ge _ _ c3
        generalize hx3 : cmpI (f3.1 * f2.2) (f2.1 * f3.2) = x3 at g3
        have HX3 : Hid (cmpI (f3.1 * f2.2) (f2.1 * f3.2) = x3) := hx3
        have p3 : 0 ≤ x3 := by omega
        clear hx3 g3
        clear c3
        go_wp2_with fail
        refine (fracCmp_both f3.1 f3.2 f2.1 f2.2 ad _ (hs3.below (bw_alloc (bw_refl _) _)) o3 o2).mono ?_
        rw [HX3.out]
        rintro e w3 ⟨rfl, K⟩
        have FB := keep K (heap_new _ _)
        replace LB := keep K ((heap_old _ _ (blk_lt LB)).trans LB)
        replace RB := keep K ((heap_old _ _ (blk_lt RB)).trans RB)
        replace TH := keep K ((heap_old _ _ (blk_lt TH)).trans TH)
        replace H := bw_trans (bw_alloc H _) K
        clear t0 t1 t2 t3 t4 t5 l0 l1 K hs3
        have zf := blk_lt FB
        have zl3 := blk_lt LB
        obtain ⟨u0, u1⟩ := blk_2 FB
        go_wp2_with fail
        clear u0 u1 FB zf zl zl3 zt
        rw [rounds_succ]
        obtain ⟨l0, l1⟩ := blk_2 LB
        have zl := blk_lt LB
        have zr := blk_lt RB
        obtain ⟨q0, q1, qf0, qf1⟩ := blkF RB
        have R2 := setF2 RB (u0 := .int .i64 f2.1) (u1 := .int .i64 f2.2)
        obtain ⟨r0, r1⟩ := blk_2 R2
        have HB : Hid _ := H
        have e1 : Hid (mnA f0 f1 f2 f3 = f2) := by change _ = _; unfold mnA; rw [m1, m2, m3]
        clear R2 RB LB TH H m1 m2 m3
        go_wp2_with fail
        exact bodyPost_ret (v := .agg #[.int .i64 f2.1, .int .i64 f2.2]) (by simp [results, Tryz.results36, go_sem, r0, r1]) rfl ⟨by rw [e1.out], by repeat (first | with_reducible exact HB.out | with_reducible refine bw_set ?_ (by dsimp only; omega) _)⟩
    · have m2 : mn f0 f2 = f0 := if_neg c2
      have g2 := cmpI_ge _ _ c2
      generalize hx2 : cmpI (f2.1 * f0.2) (f0.1 * f2.2) = x2 at g2
      have HX2 : Hid (cmpI (f2.1 * f0.2) (f0.1 * f2.2) = x2) := hx2
      have p2 : 0 ≤ x2 := by omega
      clear hx2 g2
      clear c2
      go_wp2_with fail
      refine (fracCmp_both f2.1 f2.2 f0.1 f0.2 ad _ (hs2.below (bw_alloc (bw_refl _) _)) o2 o0).mono ?_
      rw [HX2.out]
      rintro e w2 ⟨rfl, K⟩
      have FB := keep K (heap_new _ _)
      replace LB := keep K ((heap_old _ _ (blk_lt LB)).trans LB)
      replace RB := keep K ((heap_old _ _ (blk_lt RB)).trans RB)
      replace TH := keep K ((heap_old _ _ (blk_lt TH)).trans TH)
      replace H := bw_trans (bw_alloc H _) K
      clear t0 t1 t2 t3 t4 t5 l0 l1 K hs2
      have zf := blk_lt FB
      have zl2 := blk_lt LB
      obtain ⟨u0, u1⟩ := blk_2 FB
      go_wp2_with fail
      clear u0 u1 FB zf zl zl2 zt
      rw [rounds_succ]
      obtain ⟨t0, t1, t2, t3, t4, t5⟩ := blk_6 TH
      obtain ⟨l0, l1⟩ := blk_2 LB
      have zl := blk_lt LB
      have zt := blk_lt TH
      have hs3 := h0.below H
      by_cases c3 : f3.1 * f0.2 < f0.1 * f3.2
      · have m3 : mn f0 f3 = f3 := if_pos c3
        have e3 := cmpI_lt _ _ c3
        clear c3
        go_wp2_with fail
        refine (fracCmp_both f3.1 f3.2 f0.1 f0.2 ad _ (hs3.below (bw_alloc (bw_refl _) _)) o3 o0).mono ?_
        rw [e3]
        rintro e w3 ⟨rfl, K⟩
        have FB := keep K (heap_new _ _)
        replace LB := keep K ((heap_old _ _ (blk_lt LB)).trans LB)
        replace RB := keep K ((heap_old _ _ (blk_lt RB)).trans RB)
        replace TH := keep K ((heap_old _ _ (blk_lt TH)).trans TH)
        replace H := bw_trans (bw_alloc H _) K
        clear t0 t1 t2 t3 t4 t5 l0 l1 K hs3
        have zf := blk_lt FB
        have zl3 := blk_lt LB
        obtain ⟨u0, u1⟩ := blk_2 FB
        obtain ⟨q0, q1, qf0, qf1⟩ := blkF LB
        go_wp2_with fail
        replace LB := setF2 LB (u0 := .int .i64 f3.1) (u1 := .int .i64 f3.2)
        replace RB := setO2 RB (b := w.heap.size + 2) (i := 0) (j := 1) (v := .int .i64 f3.1) (u := .int .i64 f3.2) (by omega)
        replace TH := setO2 TH (b := w.heap.size + 2) (i := 0) (j := 1) (v := .int .i64 f3.1) (u := .int .i64 f3.2) (by omega)
        replace H := bw_set (bw_set H (p := ⟨w.heap.size + 2, 0, none⟩) (by dsimp only; omega) (.int .i64 f3.1)) (p := ⟨w.heap.size + 2, 1, none⟩) (by dsimp only; omega) (.int .i64 f3.2)
        clear q0 q1 qf0 qf1 e3
        generalize ((w3.setCell ⟨w.heap.size + 2, 0, none⟩ (.int .i64 f3.1)).setCell ⟨w.heap.size + 2, 1, none⟩ (.int .i64 f3.2)) = V3 at LB RB TH H ⊢
        clear u0 u1 FB zf zl zl3 zt
        rw [rounds_succ]
        obtain ⟨l0, l1⟩ := blk_2 LB
        have zl := blk_lt LB
        have zr := blk_lt RB
        obtain ⟨q0, q1, qf0, qf1⟩ := blkF RB
        have R2 := setF2 RB (u0 := .int .i64 f3.1) (u1 := .int .i64 f3.2)
        obtain ⟨r0, r1⟩ := blk_2 R2
        have HB : Hid _ := H
        have e1 : Hid (mnA f0 f1 f2 f3 = f3) := by change _ = _; unfold mnA; rw [m1, m2, m3]
        clear R2 RB LB TH H m1 m2 m3
        go_wp2_with fail
        exact bodyPost_ret (v := .agg #[.int .i64 f3.1, .int .i64 f3.2]) (by simp [results, Tryz.results36, go_sem, r0, r1]) rfl ⟨by rw [e1.out], by repeat (first | with_reducible exact HB.out | with_reducible refine bw_set ?_ (by dsimp only; omega) _)⟩
      · have m3 : mn f0 f3 = f0 := if_neg c3
        have g3 := cmpI_ge _ _ c3
        generalize hx3 : cmpI (f3.1 * f0.2) (f0.1 * f3.2) = x3 at g3
        have HX3 : Hid (cmpI (f3.1 * f0.2) (f0.1 * f3.2) = x3) := hx3
        have p3 : 0 ≤ x3 := by omega
        clear hx3 g3
        clear c3
        go_wp2_with fail
        refine (fracCmp_both f3.1 f3.2 f0.1 f0.2 ad _ (hs3.below (bw_alloc (bw_refl _) _)) o3 o0).mono ?_
        rw [HX3.out]
        rintro e w3 ⟨rfl, K⟩
        have FB := keep K (heap_new _ _)
        replace LB := keep K ((heap_old _ _ (blk_lt LB)).trans LB)
        replace RB := keep K ((heap_old _ _ (blk_lt RB)).trans RB)
        replace TH := keep K ((heap_old _ _ (blk_lt TH)).trans TH)
        replace H := bw_trans (bw_alloc H _) K
        clear t0 t1 t2 t3 t4 t5 l0 l1 K hs3
        have zf := blk_lt FB
        have zl3 := blk_lt LB
        obtain ⟨u0, u1⟩ := blk_2 FB
        go_wp2_with fail
        clear u0 u1 FB zf zl zl3 zt
        rw [rounds_succ]
        obtain ⟨l0, l1⟩ := blk_2 LB
        have zl := blk_lt LB
        have zr := blk_lt RB
        obtain ⟨q0, q1, qf0, qf1⟩ := blkF RB
        have R2 := setF2 RB (u0 := .int .i64 f0.1) (u1 := .int .i64 f0.2)
        obtain ⟨r0, r1⟩ := blk_2 R2
        have HB : Hid _ := H
        have e1 : Hid (mnA f0 f1 f2 f3 = f0) := by change _ = _; unfold mnA; rw [m1, m2, m3]
        clear R2 RB LB TH H m1 m2 m3
        go_wp2_with fail
        exact bodyPost_ret (v := .agg #[.int .i64 f0.1, .int .i64 f0.2]) (by simp [results, Tryz.results36, go_sem, r0, r1]) rfl ⟨by rw [e1.out], by repeat (first | with_reducible exact HB.out | with_reducible refine bw_set ?_ (by dsimp only; omega) _)⟩
end Go.Proofs.YthdjeabjllaaaaaGreatDoor
namespace Go.Proofs.YthdjeabjllaaaaaGreatDoor
open Go.RowKit Go.Sort

def frAt (fs : List (Int × Int)) (j : Nat) : Int × Int := fs[j]?.getD (0, 1)
theorem fold_take (fs : List (Int × Int)) (f0 : Int × Int) (k : Nat) (hk : k < fs.length) : (fs.take (k + 1)).foldl mn f0 = mn ((fs.take k).foldl mn f0) (frAt fs k) := by
  rw [List.take_add_one, List.foldl_append, List.getElem?_eq_getElem hk]; simp [frAt, hk]
theorem fold_ok (fs : List (Int × Int)) (f0 : Int × Int) (h0 : OkF f0) (hfs : ∀ f ∈ fs, OkF f) : OkF (fs.foldl mn f0) := by
  induction fs generalizing f0 with
  | nil => exact h0
  | cons f fs ih => exact ih _ (mn_ok h0 (hfs f (by simp))) (fun g hg => hfs g (by simp [hg]))
set_option maxRecDepth 100000 in
set_option maxHeartbeats 2000000 in
theorem leastRow_ok (f0 : Int × Int) (fs : List (Int × Int)) (b off len cap : Nat) (ad : Addr) (w : World) (h0 : Sent ad w) (o0 : OkF f0) (hfs : ∀ f ∈ fs, OkF f) (hl : Hid (fs.length = len)) (hlen : len ≤ 1000) (hb : b < w.heap.size)
    (hc : ∀ j, j < len → w.cell? ⟨b, off + j * 2, none⟩ = some (.int .i64 (frAt fs j).1) ∧ w.cell? ⟨b, off + j * 2 + 1, none⟩ = some (.int .i64 (frAt fs j).2)) :
    Calls Tryz.prog 36 #[.agg #[.int .i64 f0.1, .int .i64 f0.2], .slice (some ⟨b, off, none⟩) len cap] w fun e w' => e = .returned (.agg #[.int .i64 (fs.foldl mn f0).1, .int .i64 (fs.foldl mn f0).2]) ∧ Below w.heap.size w w' := by
  obtain ⟨W, hW, H, _, RB, LB⟩ := boxes3 w (.cells #[.int .i64 f0.1, .int .i64 f0.2] 32) (.cells #[.int .i64 0, .int .i64 0] 32) (.cells #[.int .i64 f0.1, .int .i64 f0.2] 32)
  have HT : Hid (∀ k, k < len → (fs.take (k + 1)).foldl mn f0 = mn ((fs.take k).foldl mn f0) (frAt fs k)) := fun k hk => fold_take fs f0 k (by rw [hl.out]; exact hk)
  have HOK : Hid (∀ k, OkF ((fs.take k).foldl mn f0)) := fun k => fold_ok _ _ o0 (fun f hf => hfs f (List.mem_of_mem_take hf))
  have HO2 : Hid (∀ k, k < len → OkF (frAt fs k)) := fun k hk => hfs _ (by unfold frAt; rw [List.getElem?_eq_getElem (by rw [hl.out]; exact hk), Option.getD_some]; exact List.getElem_mem _)
  go_enter Tryz.func36, Tryz.ntmps36
  go_upto_region 3 with fail
  rw [← hW]
  clear hW
  go_loopw [11] (fun i wr => ∃ (k : Nat) (m : Int × Int), k ≤ len ∧ i = .int .i64 k ∧ m = (fs.take k).foldl mn f0 ∧ wr.heap[w.heap.size + 2]? = some (.cells #[.int .i64 m.1, .int .i64 m.2] 32 (0, 0)) ∧ wr.heap[w.heap.size + 1]? = some (.cells #[.int .i64 0, .int .i64 0] 32 (0, 0)) ∧ Below w.heap.size w wr) (fun i _ => len - (intOf i).toNat)
  case atStart => exact ⟨0, f0, Nat.zero_le _, rfl, rfl, LB, RB, H⟩
  case round =>
    obtain ⟨k, m, hk, rfl, hm, LB, RB, H⟩ := hrel
    have hs1 := h0.below H
    have zl := blk_lt LB
    by_cases hlt : k < len
    case neg =>
      obtain rfl : len = k := by omega
      rw [List.take_of_length_le (by rw [hl.out]; exact Nat.le_refl _)] at hm
      obtain ⟨l0, l1⟩ := blk_2 LB
      obtain ⟨q0, q1, qf0, qf1⟩ := blkF RB
      have RB2 := setF2 RB (u0 := .int .i64 m.1) (u1 := .int .i64 m.2)
      obtain ⟨v0, v1⟩ := blk_2 RB2
      have HM : Hid (m = fs.foldl mn f0) := hm
      clear hm
      go_wp2_with fail
      refine bodyPost_ret (v := .agg #[.int .i64 m.1, .int .i64 m.2]) (by simp [results, Tryz.results36, go_sem, v0, v1]) rfl ⟨by rw [HM.out], ?_⟩
      exact bw_set (bw_set H (p := ⟨w.heap.size + 1, 0, none⟩) (by dsimp only; omega) _) (p := ⟨w.heap.size + 1, 1, none⟩) (by dsimp only; omega) _
    case pos =>
      have om : OkF m := by rw [hm]; exact HOK.out k
      have og := HO2.out k hlt
      have hst := HT.out k hlt
      rw [← hm] at hst
      clear hm
      obtain ⟨c0, c1⟩ := hc k hlt
      have d0 := (H.cell (p := ⟨b, off + k * 2, none⟩) hb).trans c0
      have d1 := (H.cell (p := ⟨b, off + k * 2 + 1, none⟩) hb).trans c1
      obtain ⟨l0, l1⟩ := blk_2 LB
      have i0 : (0 : Int) ≤ (k : Int) := Int.natCast_nonneg _
      have i1 : (k : Int) < (len : Int) := by omega
      have k9 : (k : Int) ≤ 1000 := by omega
      generalize frAt fs k = g at *
      have HS : Hid ((fs.take (k + 1)).foldl mn f0 = mn m g) := hst
      clear hst c0 c1
      by_cases c : g.1 * m.2 < m.1 * g.2
      · have m1 : mn m g = g := if_pos c
        have e1 := cmpI_lt _ _ c
        clear c
        go_wp2_with fail
        refine (fracCmp_both g.1 g.2 m.1 m.2 ad _ (hs1.below (bw_alloc (bw_refl _) _)) og om).mono ?_
        rw [e1]
        rintro e w1 ⟨rfl, K⟩
        have FB := keep K (heap_new _ _)
        replace LB := keep K ((heap_old _ _ (blk_lt LB)).trans LB)
        replace RB := keep K ((heap_old _ _ (blk_lt RB)).trans RB)
        replace H := bw_trans (bw_alloc H _) K
        clear l0 l1 K hs1 d0 d1
        have zf := blk_lt FB
        obtain ⟨u0, u1⟩ := blk_2 FB
        obtain ⟨q0, q1, qf0, qf1⟩ := blkF LB
        go_wp2_with fail
        have LB2 := setF2 LB (u0 := .int .i64 g.1) (u1 := .int .i64 g.2)
        have RB2 := setO2 RB (b := w.heap.size + 2) (i := 0) (j := 1) (v := .int .i64 g.1) (u := .int .i64 g.2) (by omega)
        have H2 := bw_set (bw_set H (p := ⟨w.heap.size + 2, 0, none⟩) (by dsimp only; omega) (.int .i64 g.1)) (p := ⟨w.heap.size + 2, 1, none⟩) (by dsimp only; omega) (.int .i64 g.2)
        go_roundw
        case rel => exact ⟨k + 1, g, by omega, by simp, by rw [HS.out, m1], LB2, RB2, H2⟩
        case measure => simp [intOf]; omega
      · have m1 : mn m g = m := if_neg c
        have e1 := cmpI_ge _ _ c
        obtain ⟨x, hx⟩ : ∃ x, cmpI (g.1 * m.2) (m.1 * g.2) = x := ⟨_, rfl⟩
        rw [hx] at e1
        clear c
        have hcall := fracCmp_both g.1 g.2 m.1 m.2 ad (wr.alloc (.cells #[.int .i64 g.1, .int .i64 g.2] 32)) (hs1.below (bw_alloc (bw_refl _) _)) og om
        rw [hx] at hcall
        clear hx
        go_wp2_with fail
        refine hcall.mono ?_
        rintro e w1 ⟨rfl, K⟩
        replace LB := keep K ((heap_old _ _ (blk_lt LB)).trans LB)
        replace RB := keep K ((heap_old _ _ (blk_lt RB)).trans RB)
        replace H := bw_trans (bw_alloc H _) K
        clear l0 l1 K hs1 d0 d1
        go_wp2_with fail
        go_roundw
        case rel => exact ⟨k + 1, m, by omega, by simp, by rw [HS.out, m1], LB, RB, H⟩
        case measure => simp [intOf]; omega
end Go.Proofs.YthdjeabjllaaaaaGreatDoor
namespace Go.Proofs.YthdjeabjllaaaaaGreatDoor

/-- The least of some fractions. -/
def leastL : List (Int × Int) → Int × Int
  | [] => (0, 0)
  | f :: fs => fs.foldl mn f
/-- It is one of them, and not more than any. -/
structure LeastOf (m : Int × Int) (fs : List (Int × Int)) : Prop where
  mem : m ∈ fs
  le : ∀ f ∈ fs, LeF m f
theorem foldl_mn (fs : List (Int × Int)) : ∀ (f0 : Int × Int), OkF f0 → (∀ f ∈ fs, OkF f) → LeastOf (fs.foldl mn f0) (f0 :: fs) ∧ OkF (fs.foldl mn f0) := by
  induction fs with
  | nil => intro f0 h0 _; exact ⟨⟨by simp, fun f hf => by simp at hf; rw [hf]; exact LeF.refl _⟩, h0⟩
  | cons g fs ih =>
    intro f0 h0 h
    have hg := h g (by simp)
    have ho := mn_ok h0 hg
    obtain ⟨⟨h1, h2⟩, h3⟩ := ih (mn f0 g) ho (fun f hf => h f (by simp [hf]))
    refine ⟨⟨?_, fun f hf => ?_⟩, h3⟩
    · rcases List.mem_cons.1 h1 with e | e
      · rcases mn_mem f0 g with e2 | e2
        · rw [List.foldl_cons, e, e2]; simp
        · rw [List.foldl_cons, e, e2]; simp
      · exact List.mem_cons_of_mem _ (List.mem_cons_of_mem _ e)
    · have hm := h2 (mn f0 g) (by simp)
      rcases List.mem_cons.1 hf with e | e
      · subst e; exact LeF.trans h3 ho h0 hm (mn_le1 _ _)
      · rcases List.mem_cons.1 e with e | e
        · subst e; exact LeF.trans h3 ho hg hm (mn_le2 _ _)
        · exact h2 f (List.mem_cons_of_mem _ e)
theorem leastL_of {fs : List (Int × Int)} (hne : fs ≠ []) (h : ∀ f ∈ fs, OkF f) : LeastOf (leastL fs) fs := by
  cases fs with
  | nil => exact absurd rfl hne
  | cons f fs => exact (foldl_mn fs f (h f (by simp)) (fun g hg => h g (by simp [hg]))).1
theorem leastL_ok {fs : List (Int × Int)} (hne : fs ≠ []) (h : ∀ f ∈ fs, OkF f) : OkF (leastL fs) := h _ (leastL_of hne h).mem
theorem LeastOf.unique {m m' : Int × Int} {fs : List (Int × Int)} (h : ∀ f ∈ fs, OkF f) (a : LeastOf m fs) (b : LeastOf m' fs) : m = m' :=
  LeF.antisymm (h _ a.mem) (h _ b.mem) (a.le _ b.mem) (b.le _ a.mem)
theorem LeastOf.congr {m : Int × Int} {fs gs : List (Int × Int)} (a : LeastOf m fs) (h : ∀ f, f ∈ fs ↔ f ∈ gs) : LeastOf m gs := ⟨(h _).1 a.mem, fun f hf => a.le f ((h f).2 hf)⟩
theorem leastL_congr {fs gs : List (Int × Int)} (hok : ∀ f ∈ fs, OkF f) (h : ∀ f, f ∈ fs ↔ f ∈ gs) : leastL fs = leastL gs := by
  cases fs with
  | nil => cases gs with
    | nil => rfl
    | cons g gs => exact absurd ((h g).2 (by simp)) (by simp)
  | cons f fs =>
    have hgs : gs ≠ [] := by rintro rfl; exact absurd ((h f).1 (by simp)) (by simp)
    exact ((leastL_of (by simp) hok).congr h).unique (fun g hg => hok g ((h g).2 hg)) (leastL_of hgs fun g hg => hok g ((h g).2 hg))
/-- The least of more is the least of both leasts. -/
theorem leastL_append {fs gs : List (Int × Int)} (hf : fs ≠ []) (hg : gs ≠ []) (okf : ∀ f ∈ fs, OkF f) (okg : ∀ f ∈ gs, OkF f) : leastL (fs ++ gs) = mn (leastL fs) (leastL gs) := by
  have a := leastL_of hf okf
  have b := leastL_of hg okg
  have ok : ∀ f ∈ fs ++ gs, OkF f := fun f h => (List.mem_append.1 h).elim (okf f) (okg f)
  refine (leastL_of (by simp [hf]) ok).unique ok ⟨?_, fun f h => ?_⟩
  · rcases mn_mem (leastL fs) (leastL gs) with e | e
    · rw [e]; exact List.mem_append_left _ a.mem
    · rw [e]; exact List.mem_append_right _ b.mem
  · have oa := okf _ a.mem
    have ob := okg _ b.mem
    rcases List.mem_append.1 h with h | h
    · exact LeF.trans (mn_ok oa ob) oa (okf f h) (mn_le1 (leastL fs) (leastL gs)) (a.le f h)
    · exact LeF.trans (mn_ok oa ob) ob (okg f h) (mn_le2 (leastL fs) (leastL gs)) (b.le f h)
end Go.Proofs.YthdjeabjllaaaaaGreatDoor
namespace Go.Proofs.YthdjeabjllaaaaaGreatDoor
open Go.RowKit Go.Sort

theorem frCells_at (fs : List (Int × Int)) (j : Nat) (hj : j < fs.length) : (frCells fs)[j * 2]? = some (.int .i64 (frAt fs j).1) ∧ (frCells fs)[j * 2 + 1]? = some (.int .i64 (frAt fs j).2) := by
  induction fs generalizing j with
  | nil => simp at hj
  | cons f fs ih =>
    have e : frCells (f :: fs) = .int .i64 f.1 :: .int .i64 f.2 :: frCells fs := by simp [frCells]
    cases j with
    | zero => rw [e]; exact ⟨rfl, rfl⟩
    | succ j =>
      have := ih j (by simpa using hj)
      have e1 : (j + 1) * 2 = j * 2 + 1 + 1 := by omega
      rw [e, e1]
      simpa [frAt] using this
set_option maxRecDepth 100000 in
set_option maxHeartbeats 2000000 in
theorem boardFar_any (b : Nat) (rs : List RingT) (p : P2) (ad : Addr) (w : World) (h0 : Sent ad w) (hR : RingN w.heap.size w (some ⟨b, 0, none⟩) rs) (hes : (edgR rs).length ≤ 1000) (he1 : 2 ≤ (edgR rs).length) (hok : ∀ s ∈ edgR rs, OkF (farS p s)) :
    Calls Tryz.prog 17 #[.pointer (some ⟨b, 0, none⟩), .agg #[.int .i64 p.1, .int .i64 p.2]] w fun e W' => e = .returned (.agg #[.int .i64 (leastL ((edgR rs).map (farS p))).1, .int .i64 (leastL ((edgR rs).map (farS p))).2]) ∧ Below w.heap.size w W' := by
  obtain ⟨W, hW, BW, T, RB⟩ := boxes2 w (.cells #[.int .i64 p.1, .int .i64 p.2] 28) (.cells #[.int .i64 0, .int .i64 0] 32)
  obtain ⟨M, hM⟩ : ∃ M, (edgR rs).length = M := ⟨_, rfl⟩
  have hcall := callsIn_wide.1 (fars_in 12 (Nat.le_refl _) b rs p ad W (h0.below BW) (by have := hR.keep BW; exact RingL.ringN (Nat.le_refl _) (RingL.grow BW.size this.ringL)) hes)
  obtain ⟨fs, hfs⟩ : ∃ fs, (edgR rs).map (farS p) = fs := ⟨_, rfl⟩
  have hfl : fs.length = M := by rw [← hfs, List.length_map, hM]
  have hfo : ∀ f ∈ fs, OkF f := by intro f hf; rw [← hfs] at hf; obtain ⟨s, hs, rfl⟩ := List.mem_map.1 hf; exact hok s hs
  rw [hfs, hM] at hcall
  rw [hM] at hes he1
  rw [hfs]
  obtain ⟨r, hr⟩ : ∃ r, leastL fs = r := ⟨_, rfl⟩
  rw [hr]
  have Hr : Hid (leastL fs = r) := hr
  clear hfs hok hr
  obtain ⟨t0, t1⟩ := blk_2 T
  go_enter Tryz.func17, Tryz.ntmps17
  go_upto_region 1 with fail
  rw [← hW]
  clear hW
  go_wp2_with fail
  refine hcall.mono ?_
  rintro e w1 ⟨v, rfl, ho, J⟩
  have ho' := ho
  rcases ho.2 with ⟨_, hz⟩ | ⟨g, c, cur, rfl, hgb, hg, hMc, hcm, _⟩
  · omega
  have zg := (Array.getElem?_eq_some_iff.1 hg).1
  have hc := ho'.cells (g := g) rfl
  have add : ∀ k : Nat, (⟨g, 0, none⟩ : Addr).add k = ⟨g, k, none⟩ := fun k => by unfold Addr.add; split <;> simp_all
  have hcell : ∀ j, j < M → w1.cell? ⟨g, j * 2, none⟩ = some (.int .i64 (frAt fs j).1) ∧ w1.cell? ⟨g, j * 2 + 1, none⟩ = some (.int .i64 (frAt fs j).2) := fun j hj => by
    obtain ⟨a0, a1⟩ := frCells_at fs j (by omega)
    have d0 := hc _ _ a0
    have d1 := hc _ _ a1
    rw [add] at d0 d1
    exact ⟨d0, d1⟩
  obtain ⟨f, fs', rfl⟩ : ∃ f fs', fs = f :: fs' := by
    cases fs with
    | nil => simp at hfl; omega
    | cons f fs' => exact ⟨f, fs', rfl⟩
  obtain ⟨d0, d1⟩ := hcell 0 (by omega)
  simp only [Nat.zero_mul, Nat.zero_add, frAt, List.getElem?_cons_zero, Option.getD_some] at d0 d1
  have i1 : (0 : Int) < (M : Int) := by omega
  have i4 : 0 < M := by omega
  have hgne : g ≠ w.heap.size + 1 := by have := blk_lt RB; omega
  have i2 : (1 : Int) ≤ (M : Int) := by omega
  have i3 : (M : Int) ≤ (c : Int) := by omega
  have zW := BW.size
  have RB1 := keep J RB
  have zR := blk_lt RB
  have hl' : Hid (fs'.length = M - 1) := by change _ = _; simp at hfl; omega
  have hcl : ∀ j, j < M - 1 → w1.cell? ⟨g, 2 + j * 2, none⟩ = some (.int .i64 (frAt fs' j).1) ∧ w1.cell? ⟨g, 2 + j * 2 + 1, none⟩ = some (.int .i64 (frAt fs' j).2) := fun j hj => by
    have := hcell (j + 1) (by omega)
    rw [show (j + 1) * 2 = 2 + j * 2 by omega] at this
    simpa [frAt] using this
  have hs1 := (h0.below BW).below J
  have B2 : Below w1.heap.size w1 w1.drew := bw_drew (bw_refl _)
  have hL := fun cap => leastRow_ok f fs' g 2 (M - 1) cap ad w1.drew (hs1.below B2) (hfo f (by simp)) (fun x hx => hfo x (by simp [hx])) hl' (by omega) zg hcl
  have e1 : ((M : Int) - 1).toNat = M - 1 := by omega
  have c1' : (c = 1) = False := by simp; omega
  have RBd := RB1
  obtain ⟨q0, q1, qf0, qf1⟩ := blkF RB1
  have hr : fs'.foldl mn f = r := Hr.out
  rw [hr] at hL
  clear hcell hc ho ho' hr
  go_wp2_with fail
  go_region_held3 (fun w' => w'.cell? ⟨g, 0, none⟩ = some (.int .i64 f.1) ∧ w'.cell? ⟨g, 1, none⟩ = some (.int .i64 f.2))
    (first | go_keep | exact ⟨(J2.cell (p := ⟨g, 0, none⟩) zg).trans d0, (J2.cell (p := ⟨g, 1, none⟩) zg).trans d1⟩ | exact ⟨cellS2 ((J2.cell (p := ⟨g, 0, none⟩) zg).trans d0) hgne, cellS2 ((J2.cell (p := ⟨g, 1, none⟩) zg).trans d1) hgne⟩)
    ((go_at_call 36; refine (hL _).mono ?_; rintro e w2 ⟨rfl, J2⟩; have RB2 : w2.heap[w.heap.size + 1]? = some (.cells #[.int .i64 0, .int .i64 0] 32 (0, 0)) := keep J2 RBd; obtain ⟨x0, x1, xf0, xf1⟩ := blkF RB2))
  have RB3 := setF2 RB2 (u0 := .int .i64 r.1) (u1 := .int .i64 r.2)
  obtain ⟨v0, v1⟩ := blk_2 RB3
  go_wp2_with fail
  exact bodyPost_ret (v := .agg #[.int .i64 r.1, .int .i64 r.2]) (by simp [results, Tryz.results17, go_sem, v0, v1]) rfl ⟨rfl, bw_set (bw_set (bw_trans (bw_trans (bw_trans BW J) B2) J2) (p := ⟨w.heap.size + 1, 0, none⟩) (by dsimp only; omega) _) (p := ⟨w.heap.size + 1, 1, none⟩) (by dsimp only; omega) _⟩
end Go.Proofs.YthdjeabjllaaaaaGreatDoor
namespace Go.Proofs.YthdjeabjllaaaaaGreatDoor
open Go.RowKit Go.Sort

/-- The edges that are told of a plate. -/
def plE (o : List P2) (hs : List (List P2)) : List (P2 × P2) := if plV o hs then segsL o ++ hs.flatMap segsL else []
theorem flat_len (hs : List (List P2)) (h : ∀ x ∈ hs, x.length ≤ 8) : (hs.flatMap segsL).length ≤ 8 * hs.length := by
  induction hs with
  | nil => simp
  | cons x xs ih =>
    have h1 := h x (by simp)
    have h2 := ih (fun y hy => h y (by simp [hy]))
    rw [List.flatMap_cons, List.length_append, segsL_len, List.length_cons]; omega
theorem plE_len (o : List P2) (hs : List (List P2)) : (plE o hs).length ≤ 24 := by
  unfold plE
  cases hv : plV o hs
  · simp
  · have L := (plV_iff o hs).1 hv
    have h0 := (okV_pos L.out).2
    have h1 := plV_len hv
    have h2 := flat_len hs (fun x hx => (okV_pos (L.ok x hx)).2)
    rw [if_pos rfl, List.length_append, segsL_len]; omega
theorem edgR_eq (x : RingT) (xs : List RingT) (hs : List (List P2)) (h : xs.map RingT.pts = hs) : edgR (x :: xs) = segsL x.pts ++ hs.flatMap segsL := by
  rw [← h]; simp [edgR, List.flatMap_map]
theorem ansS_mono {base base' top : Nat} {W : World} {v : Value} {ss : List (P2 × P2)} (h : AnsS base top W v ss) (hb : base' ≤ base) : AnsS base' top W v ss := by
  rcases h with h | ⟨g, c, e, h1, r⟩
  · exact .inl h
  · exact .inr ⟨g, c, e, by omega, r⟩
end Go.Proofs.YthdjeabjllaaaaaGreatDoor
namespace Go.Proofs.YthdjeabjllaaaaaGreatDoor
open Go.RowKit Go.Sort

theorem segsL_mem (l : List P2) (s : P2 × P2) : s ∈ segsL l ↔ ∃ i, i < l.length ∧ s = (ptAt l i, ptAt l (nxt l i)) := by
  unfold segsL; simp only [List.mem_map, List.mem_range]
  exact ⟨fun ⟨i, h, e⟩ => ⟨i, h, e.symm⟩, fun ⟨i, h, e⟩ => ⟨i, h, e.symm⟩⟩
theorem sAt_mem {ss : List (P2 × P2)} {j : Nat} (h : j < ss.length) : sAt ss j ∈ ss := by unfold sAt; rw [List.getElem?_eq_getElem h, Option.getD_some]; exact List.getElem_mem _
theorem plE_ok {o : List P2} {hs : List (List P2)} (hv : plV o hs = true) {s : P2 × P2} (h : s ∈ plE o hs) : sgP s.1 s.2 = true := by
  have L := (plV_iff o hs).1 hv
  unfold plE at h
  rw [hv, if_pos rfl, List.mem_append, List.mem_flatMap] at h
  rcases h with h | ⟨t, ht, h⟩
  · obtain ⟨i, hi, rfl⟩ := (segsL_mem _ _).1 h; exact okV_seg' L.out hi
  · obtain ⟨i, hi, rfl⟩ := (segsL_mem _ _).1 h; exact okV_seg' (L.ok t ht) hi
theorem plE_on {o : List P2} {hs : List (List P2)} (hv : plV o hs = true) (p : P2) : (∃ j, j < (plE o hs).length ∧ hasP (sAt (plE o hs) j).1 (sAt (plE o hs) j).2 p = true) ↔ (onL o p = true ∨ ∃ h ∈ hs, onL h p = true) := by
  have key : (∃ j, j < (plE o hs).length ∧ hasP (sAt (plE o hs) j).1 (sAt (plE o hs) j).2 p = true) ↔ ∃ s ∈ plE o hs, hasP s.1 s.2 p = true := by
    constructor
    · rintro ⟨j, hj, h⟩; exact ⟨_, sAt_mem hj, h⟩
    · rintro ⟨s, hs', h⟩
      obtain ⟨j, hj, rfl⟩ := List.getElem_of_mem hs'
      exact ⟨j, hj, by unfold sAt; rw [List.getElem?_eq_getElem hj, Option.getD_some]; exact h⟩
  rw [key]
  unfold plE
  rw [hv, if_pos rfl]
  constructor
  · rintro ⟨s, h, e⟩
    rw [List.mem_append, List.mem_flatMap] at h
    rcases h with h | ⟨t, ht, h⟩
    · obtain ⟨i, hi, rfl⟩ := (segsL_mem _ _).1 h; exact .inl ((onL_iff _ _).2 ⟨i, hi, e⟩)
    · obtain ⟨i, hi, rfl⟩ := (segsL_mem _ _).1 h; exact .inr ⟨t, ht, (onL_iff _ _).2 ⟨i, hi, e⟩⟩
  · rintro (h | ⟨t, ht, h⟩)
    · obtain ⟨i, hi, e⟩ := (onL_iff _ _).1 h; exact ⟨_, List.mem_append.2 (.inl ((segsL_mem _ _).2 ⟨i, hi, rfl⟩)), e⟩
    · obtain ⟨i, hi, e⟩ := (onL_iff _ _).1 h; exact ⟨_, List.mem_append.2 (.inr (List.mem_flatMap.2 ⟨t, ht, (segsL_mem _ _).2 ⟨i, hi, rfl⟩⟩)), e⟩
end Go.Proofs.YthdjeabjllaaaaaGreatDoor
namespace Go.Proofs.YthdjeabjllaaaaaGreatDoor
open Go.RowKit Go.Sort

theorem farS_of {p : P2} {s : P2 × P2} (hs : sgP s.1 s.2 = true) (hp : ptB p.1 p.2 = true) : farS p s = far s.1.1 s.1.2 s.2.1 s.2.2 p.1 p.2 := farV_ok hs hp
theorem farS_ok {p : P2} {s : P2 × P2} (hs : sgP s.1 s.2 = true) (hp : ptB p.1 p.2 = true) : OkF (farS p s) := by rw [farS_of hs hp]; exact far_ok hs hp
theorem plE_eq {o : List P2} {hs : List (List P2)} (hv : plV o hs = true) : plE o hs = segsL o ++ hs.flatMap segsL := by unfold plE; rw [hv, if_pos rfl]
theorem plE_ne {o : List P2} {hs : List (List P2)} (hv : plV o hs = true) : 3 ≤ (plE o hs).length := by
  have L := (plV_iff o hs).1 hv
  have := (okV_pos L.out).1
  rw [plE_eq hv, List.length_append, segsL_len]; omega
/-- How far a point is from the nearest edge. -/
def plFI (o : List P2) (hs : List (List P2)) (p : P2) : Int × Int := leastL ((plE o hs).map (farS p))
/-- The same, where all is ok; else nothing. -/
def plFV (o : List P2) (hs : List (List P2)) (p : P2) : Int × Int := if plV o hs && ptB p.1 p.2 then plFI o hs p else (0, 0)
theorem plFV_ok {o : List P2} {hs : List (List P2)} {p : P2} (hv : plV o hs = true) (hp : ptB p.1 p.2 = true) : plFV o hs p = plFI o hs p := by unfold plFV; rw [hv, hp]; rfl
theorem plFV_no {o : List P2} {hs : List (List P2)} {p : P2} (h : plV o hs = false ∨ ptB p.1 p.2 = false) : plFV o hs p = (0, 0) := by
  unfold plFV
  rcases h with h | h
  · rw [h]; rfl
  · rw [h, Bool.and_false]; rfl
theorem plE_far {o : List P2} {hs : List (List P2)} {p : P2} (hv : plV o hs = true) (hp : ptB p.1 p.2 = true) : ∀ f ∈ (plE o hs).map (farS p), OkF f := by
  intro f hf
  obtain ⟨s, h, rfl⟩ := List.mem_map.1 hf
  exact farS_ok (plE_ok hv h) hp
theorem plFI_least {o : List P2} {hs : List (List P2)} {p : P2} (hv : plV o hs = true) (hp : ptB p.1 p.2 = true) : LeastOf (plFI o hs p) ((plE o hs).map (farS p)) :=
  leastL_of (by intro e; have := plE_ne hv; have e2 := congrArg List.length e; rw [List.length_map, List.length_nil] at e2; omega) (plE_far hv hp)
theorem plFI_ok {o : List P2} {hs : List (List P2)} {p : P2} (hv : plV o hs = true) (hp : ptB p.1 p.2 = true) : OkF (plFI o hs p) := plE_far hv hp _ (plFI_least hv hp).mem
theorem plFI_mem {o : List P2} {hs : List (List P2)} {p : P2} (hv : plV o hs = true) (hp : ptB p.1 p.2 = true) : ∃ j, j < (plE o hs).length ∧ farS p (sAt (plE o hs) j) = plFI o hs p := by
  obtain ⟨s, h, e⟩ := List.mem_map.1 (plFI_least hv hp).mem
  obtain ⟨j, hj, rfl⟩ := List.getElem_of_mem h
  exact ⟨j, hj, by unfold sAt; rw [List.getElem?_eq_getElem hj, Option.getD_some]; exact e⟩
theorem plFI_le {o : List P2} {hs : List (List P2)} {p : P2} (hv : plV o hs = true) (hp : ptB p.1 p.2 = true) {j : Nat} (hj : j < (plE o hs).length) : LeF (plFI o hs p) (farS p (sAt (plE o hs) j)) :=
  (plFI_least hv hp).le _ (List.mem_map.2 ⟨_, sAt_mem hj, rfl⟩)
/-- It is 0 just on an edge. -/
theorem plFI_zero {o : List P2} {hs : List (List P2)} {p : P2} (hv : plV o hs = true) (hp : ptB p.1 p.2 = true) : plFI o hs p = (0, 1) ↔ plI o hs p = 0 := by
  rw [plI_zero hv, ← plE_on hv p]
  have z : ∀ j, j < (plE o hs).length → (farS p (sAt (plE o hs) j) = (0, 1) ↔ hasP (sAt (plE o hs) j).1 (sAt (plE o hs) j).2 p = true) := fun j hj => by
    have hs := plE_ok hv (sAt_mem hj)
    rw [farS_of hs hp, ← ok_zero (far_ok hs hp)]
    exact far_zero hs hp
  constructor
  · intro h
    obtain ⟨j, hj, e⟩ := plFI_mem hv hp
    exact ⟨j, hj, (z j hj).1 (by rw [e]; exact h)⟩
  · rintro ⟨j, hj, h⟩
    have hl := plFI_le hv hp hj
    rw [(z j hj).2 h] at hl
    have hp' := (plFI_ok hv hp).pos
    unfold LeF at hl
    exact (ok_zero (plFI_ok hv hp)).1 (by dsimp only at hl; omega)
theorem ptAt_mem {l : List P2} {i : Nat} (h : i < l.length) : ptAt l i ∈ l := by unfold ptAt; rw [List.getElem?_eq_getElem h, Option.getD_some]; exact List.getElem_mem _
theorem okV_plV {l : List P2} (h : okV l = true) : plV l [] = true := h
theorem segsL_ne {l : List P2} (h : okV l = true) (p : P2) : (segsL l).map (farS p) ≠ [] := by
  intro e
  have := congrArg List.length e
  rw [List.length_map, segsL_len, List.length_nil] at this
  have := (okV_pos h).1
  omega
/-- With a hole more it is the lesser of what it was, and how far that hole is. -/
theorem plFI_snoc {o h : List P2} {hs : List (List P2)} {p : P2} (hv : plV o (hs ++ [h]) = true) (hp : ptB p.1 p.2 = true) : plFI o (hs ++ [h]) p = mn (plFI o hs p) (plFI h [] p) := by
  have hv' : plV o hs = true := by have := plV_less hv; rwa [List.dropLast_concat] at this
  have L := (plV_iff _ _).1 hv
  have ok := L.ok h (by simp)
  have ho := plE_far hv' hp
  have hh := plE_far (okV_plV ok) hp
  have e : plE o (hs ++ [h]) = plE o hs ++ plE h [] := by rw [plE_eq hv, plE_eq hv', plE_eq (okV_plV ok)]; simp
  unfold plFI
  rw [e, List.map_append]
  refine leastL_append ?_ ?_ ho hh
  · intro e; have := plE_ne hv'; have e2 := congrArg List.length e; rw [List.length_map, List.length_nil] at e2; omega
  · intro e; have := plE_ne (okV_plV ok); have e2 := congrArg List.length e; rw [List.length_map, List.length_nil] at e2; omega
/-- What moves points, and leaves how far they are. -/
theorem segsL_map (f : P2 → P2) (l : List P2) : segsL (l.map f) = (segsL l).map fun s => (f s.1, f s.2) := by
  unfold segsL
  rw [List.length_map, List.map_map]
  refine List.map_congr_left fun i hi => ?_
  have h1 : i < l.length := List.mem_range.1 hi
  simp only [Function.comp, map_nxt]
  rw [map_at h1, map_at (nxt_lt (by omega))]
theorem plFI_map {f : P2 → P2} {o : List P2} {hs : List (List P2)} {p : P2} (hv : plV o hs = true) (hv' : plV (o.map f) (hs.map (List.map f)) = true) (hf : ∀ s ∈ plE o hs, farS (f p) (f s.1, f s.2) = farS p s) : plFI (o.map f) (hs.map (List.map f)) (f p) = plFI o hs p := by
  unfold plFI
  have e : plE (o.map f) (hs.map (List.map f)) = (plE o hs).map fun s => (f s.1, f s.2) := by
    rw [plE_eq hv, plE_eq hv', segsL_map, List.map_append, List.flatMap_map, List.map_flatMap]
    simp only [segsL_map]
  rw [e, List.map_map]
  exact congrArg leastL (List.map_congr_left fun s h => hf s h)
theorem plFI_mir {o : List P2} {hs : List (List P2)} {p : P2} (hv : plV o hs = true) (hp : ptB p.1 p.2 = true) : plFI (o.map mirP) (hs.map (List.map mirP)) (mirP p) = plFI o hs p :=
  plFI_map hv (plV_turn turns_mir hv) fun s h => by
    have hs := plE_ok hv h
    have hs' : sgP (mirP s.1) (mirP s.2) = true := mir_side.sg _ _ hs
    have hp' : ptB (mirP p).1 (mirP p).2 = true := by rw [ptB_iff] at hp ⊢; unfold mirP; dsimp only; omega
    rw [farS_of (s := (mirP s.1, mirP s.2)) hs' hp', farS_of hs hp]
    exact far_mir _ _ _ _ _ _
theorem plFI_swp {o : List P2} {hs : List (List P2)} {p : P2} (hv : plV o hs = true) (hp : ptB p.1 p.2 = true) : plFI (o.map swpP) (hs.map (List.map swpP)) (swpP p) = plFI o hs p :=
  plFI_map hv (plV_turn turns_swp hv) fun s h => by
    have hs := plE_ok hv h
    have hs' : sgP (swpP s.1) (swpP s.2) = true := swp_side.sg _ _ hs
    have hp' : ptB (swpP p).1 (swpP p).2 = true := by rw [ptB_iff] at hp ⊢; unfold swpP; dsimp only; omega
    rw [farS_of (s := (swpP s.1, swpP s.2)) hs' hp', farS_of hs hp]
    exact far_swap _ _ _ _ _ _
/-- In a plate on the other side what is in is in. -/
theorem plI_map {f : P2 → P2} (hf : ∀ l p, inI (l.map f) (f p) = inI l p) (o : List P2) (hs : List (List P2)) (p : P2) : plI (o.map f) (hs.map (List.map f)) (f p) = plI o hs p := by
  unfold plI
  rw [List.foldl_map, hf]
  simp only [hf]
end Go.Proofs.YthdjeabjllaaaaaGreatDoor
namespace Go.Proofs.YthdjeabjllaaaaaGreatDoor
open Go.RowKit Go.Sort

set_option maxRecDepth 100000 in
set_option maxHeartbeats 1000000 in
theorem plateFar_any (a ah : Option Addr) (la ca nh ch : Nat) (o : List P2) (hs : List (List P2)) (p : P2) (ad : Addr) (w : World) (h0 : Sent ad w) (h : Plt w a la ah nh o hs) :
    Calls Tryz.prog 5 #[.agg #[.slice a la ca, .slice ah nh ch], .agg #[.int .i64 p.1, .int .i64 p.2]] w fun e W' => e = .returned (.agg #[.int .i64 (plFV o hs p).1, .int .i64 (plFV o hs p).2]) ∧ Below w.heap.size w W' := by
  obtain ⟨W, hW, BW, TP, T, RB⟩ := boxes3 w (.cells #[.slice a la ca, .slice ah nh ch] 26) (.cells #[.int .i64 p.1, .int .i64 p.2] 28) (.cells #[.int .i64 0, .int .i64 0] 32)
  have hh := h.below BW
  obtain ⟨t0, t1⟩ := blk_2 TP
  have zP := blk_lt TP
  have zR := blk_lt RB
  have zB := BW.size
  cases hv : plV o hs
  · have e1 : Hid (plFV o hs p = (0, 0)) := plFV_no (.inl hv)
    go_enter Tryz.func5, Tryz.ntmps5
    go_upto_region 1 with fail
    rw [← hW]
    clear hW
    go_wp2_with fail
    refine (board_any a ah la ca nh ch o hs _ hh).mono ?_
    rw [hv]
    rintro e w1 ⟨q, rfl, J, _⟩
    replace RB := keep J RB
    obtain ⟨q0, q1, qf0, qf1⟩ := blkF RB
    have RB2 := setF2 RB (u0 := .int .i64 0) (u1 := .int .i64 0)
    obtain ⟨v0, v1⟩ := blk_2 RB2
    go_wp2_with fail
    exact bodyPost_ret (v := .agg #[.int .i64 0, .int .i64 0]) (by simp [results, Tryz.results5, go_sem, v0, v1]) rfl ⟨by rw [e1.out], bw_set (bw_set (bw_trans BW J) (p := ⟨w.heap.size + 2, 0, none⟩) (by dsimp only; omega) _) (p := ⟨w.heap.size + 2, 1, none⟩) (by dsimp only; omega) _⟩
  cases hp : ptB p.1 p.2
  · have e1 : Hid (plFV o hs p = (0, 0)) := plFV_no (.inr hp)
    go_enter Tryz.func5, Tryz.ntmps5
    go_upto_region 1 with fail
    rw [← hW]
    clear hW
    go_wp2_with fail
    refine (board_any a ah la ca nh ch o hs _ hh).mono ?_
    rw [hv]
    rintro e w1 ⟨q, rfl, J, _⟩
    replace T := keep J T
    clear t0 t1
    obtain ⟨t0, t1⟩ := blk_2 T
    go_wp2_with fail
    refine (pt_raw p _).mono ?_
    rw [hp]
    rintro e w2 ⟨rfl, J2⟩
    replace RB := keep (bw_trans J J2) RB
    obtain ⟨q0, q1, qf0, qf1⟩ := blkF RB
    have RB2 := setF2 RB (u0 := .int .i64 0) (u1 := .int .i64 0)
    obtain ⟨v0, v1⟩ := blk_2 RB2
    go_wp2_with fail
    exact bodyPost_ret (v := .agg #[.int .i64 0, .int .i64 0]) (by simp [results, Tryz.results5, go_sem, v0, v1]) rfl ⟨by rw [e1.out], bw_set (bw_set (bw_trans (bw_trans BW J) J2) (p := ⟨w.heap.size + 2, 0, none⟩) (by dsimp only; omega) _) (p := ⟨w.heap.size + 2, 1, none⟩) (by dsimp only; omega) _⟩
  · have e1 : Hid (plFV o hs p = plFI o hs p) := plFV_ok hv hp
    have L := (plV_iff o hs).1 hv
    have n3 := plE_ne hv
    have n24 := plE_len o hs
    have hfo : ∀ s ∈ plE o hs, OkF (farS p s) := fun s hs => farS_ok (plE_ok hv hs) hp
    go_enter Tryz.func5, Tryz.ntmps5
    go_upto_region 1 with fail
    rw [← hW]
    clear hW
    go_wp2_with fail
    refine (board_any a ah la ca nh ch o hs _ hh).mono ?_
    rintro e w1 ⟨q, rfl, J, hR⟩
    obtain ⟨b, xs, rfl, hR, hx⟩ := hR hv
    rw [hv]
    replace T := keep J T
    clear t0 t1
    obtain ⟨t0, t1⟩ := blk_2 T
    go_wp2_with fail
    refine (pt_raw p _).mono ?_
    rw [hp]
    rintro e w2 ⟨rfl, J2⟩
    replace T := keep J2 T
    clear t0 t1
    obtain ⟨t0, t1⟩ := blk_2 T
    have hE : edgR (⟨a, la, ca, o⟩ :: xs) = plE o hs := by rw [edgR_eq _ _ hs hx, plE_eq hv]
    have hcall := boardFar_any b (⟨a, la, ca, o⟩ :: xs) p ad w2 (h0.below (bw_trans (bw_trans BW J) J2)) (RingL.ringN (Nat.le_refl _) ((hR.below J2 (Nat.le_refl _)).grow J2.size)) (by rw [hE]; omega) (by rw [hE]; omega) (by rw [hE]; exact hfo)
    rw [hE, show leastL ((plE o hs).map (farS p)) = plFI o hs p from rfl, ← e1.out] at hcall
    clear hE hR hfo
    go_wp2_with fail
    refine hcall.mono ?_
    rintro e w3 ⟨rfl, J3⟩
    replace RB := keep (bw_trans (bw_trans J J2) J3) RB
    obtain ⟨q0, q1, qf0, qf1⟩ := blkF RB
    have RB2 := setF2 RB (u0 := .int .i64 (plFV o hs p).1) (u1 := .int .i64 (plFV o hs p).2)
    obtain ⟨v0, v1⟩ := blk_2 RB2
    go_wp2_with fail
    exact bodyPost_ret (v := .agg #[.int .i64 (plFV o hs p).1, .int .i64 (plFV o hs p).2]) (by simp [results, Tryz.results5, go_sem, v0, v1]) rfl ⟨rfl, bw_set (bw_set (bw_trans (bw_trans (bw_trans BW J) J2) J3) (p := ⟨w.heap.size + 2, 0, none⟩) (by dsimp only; omega) _) (p := ⟨w.heap.size + 2, 1, none⟩) (by dsimp only; omega) _⟩
end Go.Proofs.YthdjeabjllaaaaaGreatDoor
namespace Go.Proofs.YthdjeabjllaaaaaGreatDoor
open Go.RowKit Go.Shelf Go.Sort
attribute [local go_sem] Oper.semAt_some

/-- The cells of the edges that have come. -/
def segF (pts : List P2) (pre : List (Fin pts.length)) : List Value := pre.flatMap fun k => seg4 (ptAt pts k.1) (ptAt pts (nxt pts k.1))
theorem segF_snoc (pts : List P2) (pre : List (Fin pts.length)) (k : Fin pts.length) : segF pts (pre ++ [k]) = segF pts pre ++ seg4 (ptAt pts k.1) (ptAt pts (nxt pts k.1)) := by simp [segF]
theorem segR (pts : List P2) (n : Nat) : ((List.range n).flatMap fun k => seg4 (ptAt pts k) (ptAt pts (nxt pts k))) = segCells pts n := by
  induction n with
  | zero => rfl
  | succ n ih => rw [List.range_succ, List.flatMap_append, ih]; simp [segCells]
theorem segF_all (pts : List P2) : segF pts (List.finRange pts.length) = segCells pts pts.length := by
  rw [← segR]
  have : List.range pts.length = (List.finRange pts.length).map fun k => k.1 := by
    apply List.ext_getElem
    · simp
    · intro i h1 h2; simp
  rw [this, List.flatMap_map]; rfl
theorem own_base {W : World} {base base' : Nat} {e : TypeId} {size n : Nat} {v : Value} {xs : List Value} (h : W.ownsRow base e size v n xs) (hb : base' ≤ base) : W.ownsRow base' e size v n xs :=
  ⟨h.1, h.2.imp id fun ⟨g, c, cur, e1, h1, r⟩ => ⟨g, c, cur, e1, Nat.le_trans hb h1, r⟩⟩
/-- What LoopEdges answers. -/
def EdgesAns (base : Nat) (pts : List P2) (len : Nat) (e : Ending) (W' : World) : Prop :=
  (okV pts = false ∧ e = .returned (.slice none 0 0)) ∨ (okV pts = true ∧ ∃ vv, e = .returned vv ∧ W'.ownsRow base 79 4 vv len (segCells pts len))
/-- What the specification's answers. -/
def SEdgesAns (base : Nat) (pts : List P2) (len : Nat) (e : Ending) (W' : World) : Prop :=
  ∃ vv, e = .returned vv ∧ W'.ownsRow base 79 4 vv (if okV pts then len else 0) (segCells pts (if okV pts then len else 0))
end Go.Proofs.YthdjeabjllaaaaaGreatDoor
namespace Go.Proofs.YthdjeabjllaaaaaGreatDoor
open Go.RowKit Go.Sort

set_option maxRecDepth 100000 in
set_option maxHeartbeats 4000000 in
theorem boardIn_any (b : Nat) (o : RingT) (hs : List RingT) (p : P2) (w : World) (hR : RingL w.heap.size w (some ⟨b, 0, none⟩) (o :: hs)) (hok : ((o :: hs).all fun x => okV x.pts) = true) (hp : ptB p.1 p.2 = true) :
    Calls Tryz.prog 27 #[.pointer (some ⟨b, 0, none⟩), .agg #[.int .i64 p.1, .int .i64 p.2]] w fun e W' => e = .returned (.int .i64 (plI o.pts (hs.map RingT.pts) p)) ∧ Below w.heap.size w W' := by
  obtain ⟨b0, q0, t0, e0, ob, ol, oP, hR⟩ := hR
  cases e0
  rw [List.all_cons, Bool.and_eq_true] at hok
  have B0 : Below w.heap.size w (w.alloc (.cells #[.int .i64 p.1, .int .i64 p.2] 28)) := (by repeat (first | exact bw_refl _ | assumption | apply bw_drewN | apply bw_drew | apply bw_alloc | refine bw_set ?_ (by simp) _))
  obtain ⟨W, hW, BW, T⟩ : ∃ W, W = w.alloc (.cells #[.int .i64 p.1, .int .i64 p.2] 28) ∧ Below w.heap.size w W ∧ W.heap[w.heap.size]? = some (.cells #[.int .i64 p.1, .int .i64 p.2] 28) := ⟨_, rfl, (by repeat (first | exact bw_refl _ | assumption | apply bw_drewN | apply bw_drew | apply bw_alloc | refine bw_set ?_ (by simp) _)), heap_new _ _⟩
  have hpl : Hid (plI o.pts (hs.map RingT.pts) p = hs.foldl (fun s x => min s (-(inI x.pts p))) (inI o.pts p)) := by change _ = _; unfold plI; rw [List.foldl_map]
  have hall : Hid (∀ x ∈ hs, okV x.pts = true) := List.all_eq_true.1 hok.2
  have HW : Hid (∀ d os, Calls Tryz.prog 44 #[.slice o.a o.len o.cap, .agg #[.int .i64 p.1, .int .i64 p.2]] (grow (redrawn W d) os) fun e W' => e = .returned (.int .i64 (inI o.pts p)) ∧ Below (grow (redrawn W d) os).heap.size (grow (redrawn W d) os) W') := fun d os =>
    where_any o.a o.len o.cap o.pts p ol hok.1 hp _ ((oP.below (bw_trans BW (below_regrown W d os))).grow (bw_trans BW (below_regrown W d os)).size)
  obtain ⟨o0, o1, _, _⟩ := lies2 (ob.below BW)
  have o0' := cell_regrown o0
  obtain ⟨t0', t1'⟩ := reg_2 T
  have h3 := inI_3 o.pts p
  have hR1 := (hR.below BW (Nat.le_refl _)).grow BW.size
  have ob1 := ob.below BW
  clear o0 o1 hok
  generalize inI o.pts p = u0 at *
  go_enter Tryz.func27, Tryz.ntmps27
  go_upto_region 1 with fail
  rw [← hW]
  clear hW
  refine wp_region_quiet_below (by kernel_rfl) (by kernel_rfl) ?_
  repeat (first | go_big_quiet_step (first | (go_at_call 44; with_reducible exact Calls.regrown_of (HW.out _ _))))
  refine wpQuiet_nil ?_
  intro _ hw'
  obtain ⟨⟨dq, osq⟩, hw''⟩ := hw'
  subst hw''
  have J := below_regrown W dq osq
  generalize grow (redrawn W dq) osq = v at J ⊢
  obtain ⟨o0, o1, _, _⟩ := lies2 (ob1.below J)
  have K := bw_trans BW J
  replace T := keep J T
  have hR2 := (hR1.below J (Nat.le_refl _)).grow J.size
  clear HW t0' t1' o0' hR1 hR
  go_wp2_with fail
  go_loopw [5, 6] (fun s q wr => ∃ (u : Int) (q' : Option Addr) (rest : List RingT), s = .int .i64 u ∧ q = .pointer q' ∧ (-1 ≤ u ∧ u ≤ 1) ∧ RingL wr.heap.size wr q' rest ∧ (∀ x ∈ rest, okV x.pts = true) ∧ hs.foldl (fun s x => min s (-(inI x.pts p))) u0 = rest.foldl (fun s x => min s (-(inI x.pts p))) u ∧ Below v.heap.size v wr) (fun _ q wr => ringsLeft wr q)
  case atStart => exact ⟨u0, q0, hs, rfl, rfl, by omega, hR2, hall.out, rfl, bw_refl _⟩
  case round =>
    obtain ⟨u, q', rest, rfl, rfl, hu, hL, hak, he, hnx⟩ := hrel
    cases rest with
    | nil =>
      obtain rfl : q' = none := hL
      have e1 : Hid (plI o.pts (hs.map RingT.pts) p = u) := by change _ = _; rw [hpl.out, he]; rfl
      clear he
      go_wp2_with fail
      go_ret
      exact ⟨ret_int e1.out.symm, bw_trans K hnx⟩
    | cons y ys =>
      have hL' := hL
      obtain ⟨b1, q1, t1, rfl, hb, hlen, hP, hr⟩ := hL
      obtain ⟨d0, d1, _, _⟩ := lies2 hb
      have d0' := cell_regrown d0
      have d1' := cell_regrown d1
      obtain ⟨t0', t1'⟩ := reg_2 (keep hnx T)
      have y3 := inI_3 y.pts p
      have HW : Hid (∀ d os, Calls Tryz.prog 44 #[.slice y.a y.len y.cap, .agg #[.int .i64 p.1, .int .i64 p.2]] (grow (redrawn wr d) os) fun e W' => e = .returned (.int .i64 (inI y.pts p)) ∧ Below (grow (redrawn wr d) os).heap.size (grow (redrawn wr d) os) W') := fun d os =>
        where_any y.a y.len y.cap y.pts p hlen (hak y (by simp)) hp _ ((hP.below (below_regrown wr d os)).grow (below_regrown wr d os).size)
      have he1 : Hid (hs.foldl (fun s x => min s (-(inI x.pts p))) u0 = ys.foldl (fun s x => min s (-(inI x.pts p))) (min u (-(inI y.pts p)))) := he
      clear he
      generalize inI y.pts p = u1 at *
      have nu : IntKind.i64.wrap (-u1) = -u1 := wrap_small (by omega) (by omega)
      clear d0 d1
      by_cases hm : -u1 < u
      · have hmin : min u (-u1) = -u1 := by omega
        go_wp2_with fail
        refine wp_region_quiet_below (by kernel_rfl) (by kernel_rfl) ?_
        repeat (first | go_big_quiet_step (first | (go_at_call 44; with_reducible exact Calls.regrown_of (HW.out _ _))))
        refine wpQuiet_nil ?_
        intro _ hw'
        obtain ⟨⟨dq, osq⟩, hw''⟩ := hw'
        subst hw''
        have J := below_regrown wr dq osq
        generalize grow (redrawn wr dq) osq = v2 at J ⊢
        obtain ⟨d0, d1, _, _⟩ := lies2 (hb.below J)
        go_wp2_with fail
        go_roundw
        case rel => exact ⟨-u1, q1, ys, rfl, rfl, by omega, (hr.below J (Nat.le_refl _)).grow J.size, fun x hx => hak x (by simp [hx]), by rw [he1.out, hmin], bw_trans hnx J⟩
        case measure => rw [ringsLeft_eq (hr.below J (Nat.le_refl _)), ringsLeft_eq hL']; simp
      · have hmin : min u (-u1) = u := by omega
        go_wp2_with fail
        refine wp_region_quiet_below (by kernel_rfl) (by kernel_rfl) ?_
        repeat (first | go_big_quiet_step (first | (go_at_call 44; with_reducible exact Calls.regrown_of (HW.out _ _))))
        refine wpQuiet_nil ?_
        intro _ hw'
        obtain ⟨⟨dq, osq⟩, hw''⟩ := hw'
        subst hw''
        have J := below_regrown wr dq osq
        generalize grow (redrawn wr dq) osq = v2 at J ⊢
        obtain ⟨d0, d1, _, _⟩ := lies2 (hb.below J)
        go_wp2_with fail
        go_roundw
        case rel => exact ⟨u, q1, ys, rfl, rfl, by omega, (hr.below J (Nat.le_refl _)).grow J.size, fun x hx => hak x (by simp [hx]), by rw [he1.out, hmin], bw_trans hnx J⟩
        case measure => rw [ringsLeft_eq (hr.below J (Nat.le_refl _)), ringsLeft_eq hL']; simp
set_option maxRecDepth 100000 in
set_option maxHeartbeats 1000000 in
theorem plateIn_any (a ah : Option Addr) (la ca nh ch : Nat) (o : List P2) (hs : List (List P2)) (p : P2) (w : World) (h : Plt w a la ah nh o hs) :
    Calls Tryz.prog 11 #[.agg #[.slice a la ca, .slice ah nh ch], .agg #[.int .i64 p.1, .int .i64 p.2]] w fun e W' => e = .returned (.int .i64 (plInV o hs p)) ∧ Below w.heap.size w W' := by
  obtain ⟨W, hW, BW, TP, T⟩ := boxes2 w (.cells #[.slice a la ca, .slice ah nh ch] 26) (.cells #[.int .i64 p.1, .int .i64 p.2] 28)
  have hh := h.below BW
  obtain ⟨t0, t1⟩ := blk_2 TP
  have zP := blk_lt TP
  cases hv : plV o hs
  · have e1 : Hid (plInV o hs p = -1) := by change _ = _; unfold plInV; rw [hv]; rfl
    go_enter Tryz.func11, Tryz.ntmps11
    go_upto_region 1 with fail
    rw [← hW]
    clear hW
    go_wp2_with fail
    refine (board_any a ah la ca nh ch o hs _ hh).mono ?_
    rw [hv]
    rintro e w1 ⟨q, rfl, J, _⟩
    go_wp2_with fail
    go_ret
    exact ⟨ret_int e1.out.symm, bw_trans BW J⟩
  cases hp : ptB p.1 p.2
  · have e1 : Hid (plInV o hs p = -1) := by change _ = _; unfold plInV; rw [hv, hp]; rfl
    go_enter Tryz.func11, Tryz.ntmps11
    go_upto_region 1 with fail
    rw [← hW]
    clear hW
    go_wp2_with fail
    refine (board_any a ah la ca nh ch o hs _ hh).mono ?_
    rw [hv]
    rintro e w1 ⟨q, rfl, J, _⟩
    replace T := keep J T
    clear t0 t1
    obtain ⟨t0, t1⟩ := blk_2 T
    go_wp2_with fail
    refine (pt_raw p _).mono ?_
    rw [hp]
    rintro e w2 ⟨rfl, J2⟩
    go_wp2_with fail
    go_ret
    exact ⟨ret_int e1.out.symm, bw_trans (bw_trans BW J) J2⟩
  · have e1 : Hid (plInV o hs p = plI o hs p) := by change _ = _; unfold plInV; rw [hv, hp]; rfl
    have L := (plV_iff o hs).1 hv
    go_enter Tryz.func11, Tryz.ntmps11
    go_upto_region 1 with fail
    rw [← hW]
    clear hW
    go_wp2_with fail
    refine (board_any a ah la ca nh ch o hs _ hh).mono ?_
    rintro e w1 ⟨q, rfl, J, hR⟩
    obtain ⟨b, xs, rfl, hR, hx⟩ := hR hv
    rw [hv]
    replace T := keep J T
    clear t0 t1
    obtain ⟨t0, t1⟩ := blk_2 T
    go_wp2_with fail
    refine (pt_raw p _).mono ?_
    rw [hp]
    rintro e w2 ⟨rfl, J2⟩
    replace T := keep J2 T
    clear t0 t1
    obtain ⟨t0, t1⟩ := blk_2 T
    have hall : ((⟨a, la, ca, o⟩ :: xs : List RingT).all fun x => okV x.pts) = true := by
      rw [List.all_eq_true]
      intro x hx'
      rcases List.mem_cons.1 hx' with e | e
      · subst e; exact L.out
      · exact L.ok _ (by rw [← hx]; exact List.mem_map.2 ⟨x, e, rfl⟩)
    go_wp2_with fail
    refine (boardIn_any b ⟨a, la, ca, o⟩ xs p w2 ((hR.below J2 (Nat.le_refl _)).grow J2.size) hall hp).mono ?_
    rw [hx]
    rintro e w3 ⟨rfl, J3⟩
    go_wp2_with fail
    go_ret
    exact ⟨ret_int e1.out.symm, bw_trans (bw_trans (bw_trans BW J) J2) J3⟩
end Go.Proofs.YthdjeabjllaaaaaGreatDoor
namespace Go.Proofs.YthdjeabjllaaaaaGreatDoor
open Go.RowKit Go.Shelf Go.Sort
attribute [local go_sem] Oper.semAt_some

end Go.Proofs.YthdjeabjllaaaaaGreatDoor
namespace Go.Proofs.YthdjeabjllaaaaaGreatDoor
open Go.RowKit Go.Sort

/-- The edges that are told of a loop. -/
def edgV (l : List P2) : List (P2 × P2) := if okV l then segsL l else []
theorem edgV_len (l : List P2) : (edgV l).length ≤ 8 := by
  unfold edgV
  cases h : okV l
  · simp
  · have := ((okV_iff l).1 h).hi; rw [if_pos rfl, segsL_len]; omega
theorem PtBlk.own {W : World} {g c n : Nat} {l : List P2} (h : PtBlk W g c l n) : Own W g (c * 2) 28 := by obtain ⟨cur, h, hs, _⟩ := h; exact ⟨cur, h, hs⟩
end Go.Proofs.YthdjeabjllaaaaaGreatDoor
namespace Go.Proofs.YthdjeabjllaaaaaGreatDoor
open Go.RowKit Go.Shelf Go.Sort

end Go.Proofs.YthdjeabjllaaaaaGreatDoor
namespace Go.Proofs.YthdjeabjllaaaaaGreatDoor
open Go.RowKit Go.Sort

theorem sEdges_pts (a1 : Option Addr) (len1 cap1 : Nat) (l1 : List P2) (ok1 : okV l1 = true) (w : World) (hP1 : Pts w.heap.size w a1 len1 l1) :
    Calls Tryz.prog 39 #[.slice a1 len1 cap1] w fun e w' => ∃ g c, e = .returned (.slice (some ⟨g, 0, none⟩) len1 c) ∧ w'.ownsRow w.heap.size 79 4 (.slice (some ⟨g, 0, none⟩) len1 c) len1 (cellsS (segsL l1)) ∧ Below w.heap.size w w' := by
  have h1 := okV_pos ok1
  obtain ⟨e1, c1⟩ := hP1
  rcases c1 with h0 | ⟨b1, off1, rfl, hb1, hc1⟩
  · omega
  refine (sEdges_ok b1 off1 len1 cap1 l1 w e1 (by omega) (by omega) hb1 hc1).mono ?_
  rintro e w' ⟨v, rfl, ho, J⟩
  rw [← e1, ← segsL_cells, e1] at ho
  have ho' := ho
  rcases ho.2 with ⟨_, h0⟩ | ⟨g, c, cur, rfl, _⟩
  · omega
  · exact ⟨g, c, rfl, ho', J⟩
theorem cellsS_one (ss : List (P2 × P2)) : ∀ u ∈ cellsS ss, u.oneCell' = true := by
  intro u hu
  simp only [cellsS, List.mem_flatMap, seg4] at hu
  obtain ⟨s, _, hs⟩ := hu
  simp at hs
  rcases hs with rfl | rfl | rfl | rfl <;> rfl
set_option maxRecDepth 100000 in
set_option maxHeartbeats 4000000 in
theorem l11Edges_ok (a ah : Option Addr) (la ca nh ch : Nat) (o : List P2) (hs : List (List P2)) (hv : plV o hs = true) (w : World) (h : Plt w a la ah nh o hs) :
    Calls Tryz.prog 19 #[.agg #[.slice a la ca, .slice ah nh ch]] w fun e W' => ∃ v, e = .returned v ∧ W'.ownsRow w.heap.size 79 4 v (plE o hs).length (cellsS (plE o hs)) ∧ Below w.heap.size w W' := by
  obtain ⟨i0, hi0, hz0, hz1, hz2⟩ := info_parts Tryz.infoSeg
  obtain ⟨W, hW, BW, TP⟩ : ∃ W, W = w.alloc (.cells #[.slice a la ca, .slice ah nh ch] 26) ∧ Below w.heap.size w W ∧ W.heap[w.heap.size]? = some (.cells #[.slice a la ca, .slice ah nh ch] 26 (0, 0)) := ⟨_, rfl, (by repeat (first | exact bw_refl _ | assumption | apply bw_drewN | apply bw_drew | apply bw_alloc | refine bw_set ?_ (by simp) _)), heap_new _ _⟩
  have hPV := (plV_iff o hs).1 hv
  obtain ⟨hla, hP, hlen, A, L, C, hS, hH⟩ := h.below BW
  have HO := sEdges_pts a la ca o hPV.out W hP
  have HOK : Hid (∀ j, j < nh → okV (hs[j]?.getD []) = true) := fun j hj => hPV.ok _ (by rw [List.getElem?_eq_getElem (by omega), Option.getD_some]; exact List.getElem_mem _)
  have HE : Hid (plE o hs = segsL o ++ (hs.take nh).flatMap segsL) := by change _ = _; unfold plE; rw [hv, if_pos rfl, ← hlen, List.take_length]
  have HT : Hid (∀ k, k < nh → (hs.take (k + 1)).flatMap segsL = (hs.take k).flatMap segsL ++ segsL (hs[k]?.getD [])) := fun k hk => by
    rw [List.take_add_one, List.flatMap_append, List.getElem?_eq_getElem (by omega)]; simp
  have HB : Hid (∀ k, k ≤ nh → (segsL o ++ (hs.take k).flatMap segsL).length ≤ 24) := fun k hk => by
    have h0 := (okV_pos hPV.out).2
    have h2 := flat_len (hs.take k) (fun x hx => (okV_pos (hPV.ok x (List.mem_of_mem_take hx))).2)
    have h3 := hPV.len
    rw [List.length_append, segsL_len]; rw [List.length_take] at h2; omega
  have hl0 : Hid (la = (segsL o).length) := by change _ = _; rw [segsL_len]; exact hP.1.symm
  have hnh : nh ≤ 2 := by have := hPV.len; omega
  clear hlen hPV hv h
  obtain ⟨t0, t1⟩ := blk_2 TP
  have zP := blk_lt TP
  go_enter Tryz.func19, Tryz.ntmps19
  go_upto_region 1 with fail
  rw [← hW]
  clear hW
  go_wp2_with fail
  refine HO.mono ?_
  rintro e v ⟨g0, c0, rfl, ho0, J⟩
  have ho1 : v.ownsRow W.heap.size 79 4 (.slice (some ⟨g0, 0, none⟩) la c0) (segsL o ++ (hs.take 0).flatMap segsL).length (cellsS (segsL o ++ (hs.take 0).flatMap segsL)) := by
    have e0 := hl0.out; simp only [List.take_zero, List.flatMap_nil, List.append_nil]; rw [← e0]; exact ho0
  clear HO t0 t1 ho0
  go_wp2_with fail
  go_loopw [3, 4] (fun out i wr => ∃ k : Nat, k ≤ nh ∧ i = .int .i64 k ∧ wr.ownsRow W.heap.size 79 4 out (segsL o ++ (hs.take k).flatMap segsL).length (cellsS (segsL o ++ (hs.take k).flatMap segsL)) ∧ Below W.heap.size W wr) (fun _ i _ => nh - (intOf i).toNat)
  case atStart => exact ⟨0, Nat.zero_le _, rfl, ho1, J⟩
  case round =>
    obtain ⟨k, hk, rfl, hown, hnx⟩ := hrel
    obtain ⟨t0, t1⟩ := blk_2 (keep hnx TP)
    have zz := hnx.size
    by_cases hlt : k < nh
    case neg =>
      obtain rfl : nh = k := by omega
      rw [← HE.out] at hown
      go_wp2_with fail
      go_ret
      exact ⟨_, rfl, own_base hown BW.size, bw_trans BW hnx⟩
    case pos =>
      rcases hS.below hnx with h0 | ⟨b, off, rfl, hbl, hcs⟩
      · omega
      have c1 := hcs k hlt
      clear hcs
      have j0 : (0 : Int) ≤ (k : Int) := Int.natCast_nonneg _
      have j1 : (k : Int) < (nh : Int) := by omega
      obtain ⟨hLk, hPk⟩ := hH k hlt
      have hokk := HOK.out k hlt
      have hcall := sEdges_pts (A k) (L k) (C k) _ hokk wr ((hPk.below hnx).grow hnx.size)
      have hlk : (segsL (hs[k]?.getD [])).length = L k := by rw [segsL_len]; exact hPk.1
      have hbk := HB.out k hk
      have hbk1 := HB.out (k + 1) hlt
      rw [HT.out k hlt, ← List.append_assoc, List.length_append, hlk] at hbk1
      have hl1 : (segsL o ++ (hs.take k).flatMap segsL).length + L k = (segsL o ++ (hs.take (k + 1)).flatMap segsL).length := by rw [HT.out k hlt, ← List.append_assoc, List.length_append (bs := segsL _), hlk]
      have hc1 : cellsS (segsL o ++ (hs.take (k + 1)).flatMap segsL) = cellsS (segsL o ++ (hs.take k).flatMap segsL) ++ cellsS (segsL (hs[k]?.getD [])) := by rw [HT.out k hlt, ← List.append_assoc, cellsS_append _ (segsL _)]
      have HL1 : Hid ((segsL o ++ (hs.take k).flatMap segsL).length + L k = (segsL o ++ (hs.take (k + 1)).flatMap segsL).length) := hl1
      have HC1 : Hid (cellsS (segsL o ++ (hs.take (k + 1)).flatMap segsL) = cellsS (segsL o ++ (hs.take k).flatMap segsL) ++ cellsS (segsL (hs[k]?.getD []))) := hc1
      have HLK : Hid ((cellsS (segsL (hs[k]?.getD []))).length = L k * 4) := by change _ = _; rw [cellsS_len, hlk]
      have hm1 : (segsL o ++ (hs.take k).flatMap segsL).length + L k ≤ 24 := by rw [hl1]; exact HB.out (k + 1) hlt
      clear hl1 hc1 hbk1 hlk
      go_wp2_with (first
        | (go_at_call 39; refine hcall.mono ?_; rintro e w7 ⟨g7, c7, rfl, ho7, J7⟩; have hown7 := hown.kept (w' := w7) (row := none) ⟨J7.os, J7.tape, J7.output, J7.size, fun j hj _ => J7.block j hj⟩ (Classical.em _); have hn7 := bw_trans hnx J7; have zz7 := hn7.size)
        | (at_builtin; refine wpList_append_own_wide _ rfl _ _ _ rfl W.heap.size 79 i0 _ 4 32 Tryz.underlying50 hi0 hz0 hz1 hz2 rfl (by omega) _ _ _ rfl hown7 ⟨g7, 0, none⟩ (L k) c7 (cellsS (segsL (hs[k]?.getD []))) rfl HLK.out (ho7.cells (g := g7) rfl) (cellsS_one _) (by simp [maxLen] at hm1 ⊢; omega) (by omega) (by omega) ?_; intro v8 w8 hown8 hgr8 hnil8))
      go_roundw
      case rel => exact ⟨k + 1, by omega, by simp, by rw [← HL1.out, HC1.out]; exact hown8, hn7.grown hgr8 zz7 (fun j e => (hown7.lt j e).1)⟩
      case measure => simp [intOf]; omega
end Go.Proofs.YthdjeabjllaaaaaGreatDoor
namespace Go.Proofs.YthdjeabjllaaaaaGreatDoor
open Go.RowKit Go.Sort

theorem cT6 {W : World} {p m n k l : Nat} {x y z u : Value} {a0 a1 a2 a3 a4 a5 : Addr} {v0 v1 v2 v3 v4 v5 : Value} (h : W.cell? a0 = some v0 ∧ W.cell? a1 = some v1 ∧ W.cell? a2 = some v2 ∧ W.cell? a3 = some v3 ∧ W.cell? a4 = some v4 ∧ W.cell? a5 = some v5) (n0 : a0.block ≠ p) (n1 : a1.block ≠ p) (n2 : a2.block ≠ p) (n3 : a3.block ≠ p) (n4 : a4.block ≠ p) (n5 : a5.block ≠ p) : ((((W.setCell ⟨p, m, none⟩ x).setCell ⟨p, n, none⟩ y).setCell ⟨p, k, none⟩ z).setCell ⟨p, l, none⟩ u).cell? a0 = some v0 ∧ ((((W.setCell ⟨p, m, none⟩ x).setCell ⟨p, n, none⟩ y).setCell ⟨p, k, none⟩ z).setCell ⟨p, l, none⟩ u).cell? a1 = some v1 ∧ ((((W.setCell ⟨p, m, none⟩ x).setCell ⟨p, n, none⟩ y).setCell ⟨p, k, none⟩ z).setCell ⟨p, l, none⟩ u).cell? a2 = some v2 ∧ ((((W.setCell ⟨p, m, none⟩ x).setCell ⟨p, n, none⟩ y).setCell ⟨p, k, none⟩ z).setCell ⟨p, l, none⟩ u).cell? a3 = some v3 ∧ ((((W.setCell ⟨p, m, none⟩ x).setCell ⟨p, n, none⟩ y).setCell ⟨p, k, none⟩ z).setCell ⟨p, l, none⟩ u).cell? a4 = some v4 ∧ ((((W.setCell ⟨p, m, none⟩ x).setCell ⟨p, n, none⟩ y).setCell ⟨p, k, none⟩ z).setCell ⟨p, l, none⟩ u).cell? a5 = some v5 := cS6 (cS6 h n0 n1 n2 n3 n4 n5) n0 n1 n2 n3 n4 n5
theorem cellL {W : World} {o o' : Obj} {a : Addr} {v : Value} (h : (W.alloc o).cell? a = some v) (hb : a.block < W.heap.size) : (W.alloc o').cell? a = some v := by
  rw [← h]
  exact World.cell?_of_block (w := W.alloc o) ((heap_old W o' hb).trans (heap_old W o hb).symm)
theorem cL6 {W : World} {o o' : Obj} {a0 a1 a2 a3 a4 a5 : Addr} {v0 v1 v2 v3 v4 v5 : Value} (h : (W.alloc o).cell? a0 = some v0 ∧ (W.alloc o).cell? a1 = some v1 ∧ (W.alloc o).cell? a2 = some v2 ∧ (W.alloc o).cell? a3 = some v3 ∧ (W.alloc o).cell? a4 = some v4 ∧ (W.alloc o).cell? a5 = some v5) (n0 : a0.block < W.heap.size) (n1 : a1.block < W.heap.size) (n2 : a2.block < W.heap.size) (n3 : a3.block < W.heap.size) (n4 : a4.block < W.heap.size) (n5 : a5.block < W.heap.size) : (W.alloc o').cell? a0 = some v0 ∧ (W.alloc o').cell? a1 = some v1 ∧ (W.alloc o').cell? a2 = some v2 ∧ (W.alloc o').cell? a3 = some v3 ∧ (W.alloc o').cell? a4 = some v4 ∧ (W.alloc o').cell? a5 = some v5 :=
  ⟨cellL h.1 n0, cellL h.2.1 n1, cellL h.2.2.1 n2, cellL h.2.2.2.1 n3, cellL h.2.2.2.2.1 n4, cellL h.2.2.2.2.2 n5⟩
theorem cL8 {W : World} {o o' : Obj} {a0 a1 a2 a3 a4 a5 a6 a7 : Addr} {v0 v1 v2 v3 v4 v5 v6 v7 : Value} (h : (W.alloc o).cell? a0 = some v0 ∧ (W.alloc o).cell? a1 = some v1 ∧ (W.alloc o).cell? a2 = some v2 ∧ (W.alloc o).cell? a3 = some v3 ∧ (W.alloc o).cell? a4 = some v4 ∧ (W.alloc o).cell? a5 = some v5 ∧ (W.alloc o).cell? a6 = some v6 ∧ (W.alloc o).cell? a7 = some v7) (n0 : a0.block < W.heap.size) (n1 : a1.block < W.heap.size) (n2 : a2.block < W.heap.size) (n3 : a3.block < W.heap.size) (n4 : a4.block < W.heap.size) (n5 : a5.block < W.heap.size) (n6 : a6.block < W.heap.size) (n7 : a7.block < W.heap.size) : (W.alloc o').cell? a0 = some v0 ∧ (W.alloc o').cell? a1 = some v1 ∧ (W.alloc o').cell? a2 = some v2 ∧ (W.alloc o').cell? a3 = some v3 ∧ (W.alloc o').cell? a4 = some v4 ∧ (W.alloc o').cell? a5 = some v5 ∧ (W.alloc o').cell? a6 = some v6 ∧ (W.alloc o').cell? a7 = some v7 :=
  ⟨cellL h.1 n0, cellL h.2.1 n1, cellL h.2.2.1 n2, cellL h.2.2.2.1 n3, cellL h.2.2.2.2.1 n4, cellL h.2.2.2.2.2.1 n5, cellL h.2.2.2.2.2.2.1 n6, cellL h.2.2.2.2.2.2.2 n7⟩
end Go.Proofs.YthdjeabjllaaaaaGreatDoor
namespace Go.Proofs.YthdjeabjllaaaaaGreatDoor
open Go.RowKit Go.Sort

set_option maxRecDepth 100000 in
set_option maxHeartbeats 4000000 in
theorem sL11Far_ok (g len cap : Nat) (ss : List (P2 × P2)) (p : P2) (w : World) (hS : SRow w g ss) (zg : g < w.heap.size) (hl : ss.length = len) (h1 : 1 ≤ len) (h2 : len ≤ 1000) (hok : ∀ s ∈ ss, sgP s.1 s.2 = true) (hp : ptB p.1 p.2 = true) :
    Calls Tryz.prog 18 #[.slice (some ⟨g, 0, none⟩) len cap, .agg #[.int .i64 p.1, .int .i64 p.2]] w fun e W' => e = .returned (.agg #[.int .i64 (leastL (ss.map (farS p))).1, .int .i64 (leastL (ss.map (farS p))).2]) ∧ Below w.heap.size w W' := by
  obtain ⟨W, hW, BW, T, RB⟩ := boxes2 w (.cells #[.int .i64 p.1, .int .i64 p.2] 28) (.cells #[.int .i64 0, .int .i64 0] 32)
  obtain ⟨F, hF⟩ : ∃ F : Nat → Int × Int, F = fun k => farS p (sAt ss k) := ⟨_, rfl⟩
  obtain ⟨M, hM⟩ : ∃ M : Nat → Int × Int, M = fun k => leastL ((ss.take k).map (farS p)) := ⟨_, rfl⟩
  have hat : ∀ k, k < len → sgP (sAt ss k).1 (sAt ss k).2 = true := fun k hk => hok _ (sAt_mem (by omega))
  have HF : Hid (∀ k, k < len → OkF (F k) ∧ ∀ w, Calls Tryz.prog 37 #[.agg #[.int .i64 (sAt ss k).1.1, .int .i64 (sAt ss k).1.2, .int .i64 (sAt ss k).2.1, .int .i64 (sAt ss k).2.2], .agg #[.int .i64 p.1, .int .i64 p.2]] w fun e w' => e = .returned (.agg #[.int .i64 (F k).1, .int .i64 (F k).2]) ∧ Below w.heap.size w w') := fun k hk => by
    rw [hF]
    refine ⟨farS_ok (hat k hk) hp, fun w => ?_⟩
    have := sFar_ok (sAt ss k).1.1 (sAt ss k).1.2 (sAt ss k).2.1 (sAt ss k).2.2 p.1 p.2 w (hat k hk) hp
    dsimp only
    rw [farS_of (hat k hk) hp]
    exact this
  have hcut : ∀ k, k < len → (ss.take (k + 1)).map (farS p) = (ss.take k).map (farS p) ++ [farS p (sAt ss k)] := fun k hk => by
    rw [List.take_add_one, List.getElem?_eq_getElem (by omega), List.map_append]
    simp [sAt, List.getElem?_eq_getElem (show k < ss.length by omega)]
  have hfold : ∀ (l : List (Int × Int)) (x : Int × Int), l ≠ [] → leastL (l ++ [x]) = mn (leastL l) x := by
    intro l x hne
    cases l with
    | nil => exact absurd rfl hne
    | cons y l => show (l ++ [x]).foldl mn y = _; rw [List.foldl_append]; rfl
  have HM1 : Hid (M (0 + 1) = F 0) := by change _ = _; rw [hM, hF]; dsimp only; rw [hcut 0 (by omega)]; rfl
  have HMs : Hid (∀ k, 1 ≤ k → k < len → M (k + 1) = mn (M k) (F k)) := fun k hk1 hk => by
    rw [hM, hF]; dsimp only; rw [hcut k hk]
    refine hfold _ _ ?_
    intro e
    have := congrArg List.length e
    rw [List.length_map, List.length_take, List.length_nil] at this
    omega
  have HMok : Hid (∀ k, 1 ≤ k → k ≤ len → OkF (M k)) := fun k hk1 hk => by
    rw [hM]; dsimp only
    refine leastL_ok ?_ ?_
    · intro e
      have := congrArg List.length e
      rw [List.length_map, List.length_take, List.length_nil] at this
      omega
    · intro f hf
      obtain ⟨s, hs, rfl⟩ := List.mem_map.1 hf
      exact farS_ok (hok s (List.mem_of_mem_take hs)) hp
  have HMl : Hid (M len = leastL (ss.map (farS p))) := by change _ = _; rw [hM]; dsimp only; rw [← hl, List.take_length]
  have HS : Hid (∀ k, k < len → w.cell? ⟨g, k * 4, none⟩ = some (.int .i64 (sAt ss k).1.1) ∧ w.cell? ⟨g, k * 4 + 1, none⟩ = some (.int .i64 (sAt ss k).1.2) ∧ w.cell? ⟨g, k * 4 + 2, none⟩ = some (.int .i64 (sAt ss k).2.1) ∧ w.cell? ⟨g, k * 4 + 3, none⟩ = some (.int .i64 (sAt ss k).2.2)) := fun k hk => hS k (by omega)
  clear hF hM hat hcut hfold hok hl hS
  rw [← HMl.out]
  obtain ⟨s0, s1, s2, s3⟩ := HS.out 0 (by omega)
  simp only [Nat.zero_mul, Nat.zero_add] at s0 s1 s2 s3
  have d0 := (BW.cell (p := ⟨g, 0, none⟩) zg).trans s0
  have d1 := (BW.cell (p := ⟨g, 1, none⟩) zg).trans s1
  have d2 := (BW.cell (p := ⟨g, 2, none⟩) zg).trans s2
  have d3 := (BW.cell (p := ⟨g, 3, none⟩) zg).trans s3
  clear s0 s1 s2 s3
  obtain ⟨t0, t1⟩ := blk_2 T
  have i0 : (0 : Int) < (len : Int) := by omega
  have i4 : 0 < len := by omega
  have zW := BW.size
  have zR := blk_lt RB
  go_enter Tryz.func18, Tryz.ntmps18
  go_upto_region 1 with fail
  rw [← hW]
  clear hW
  have hgW : g < W.heap.size := by omega
  have hwW : w.heap.size < W.heap.size := by have := blk_lt T; omega
  have hS0 : ((fun w' => w'.cell? ⟨g, 0, none⟩ = some (.int .i64 (sAt ss 0).1.1) ∧ w'.cell? ⟨g, 1, none⟩ = some (.int .i64 (sAt ss 0).1.2) ∧ w'.cell? ⟨g, 2, none⟩ = some (.int .i64 (sAt ss 0).2.1) ∧ w'.cell? ⟨g, 3, none⟩ = some (.int .i64 (sAt ss 0).2.2) ∧ w'.cell? ⟨w.heap.size, 0, none⟩ = some (.int .i64 p.1) ∧ w'.cell? ⟨w.heap.size, 1, none⟩ = some (.int .i64 p.2))) W := ⟨d0, d1, d2, d3, t0, t1⟩
  clear d0 d1 d2 d3 t0 t1
  go_cut [5] (fun s5 wc => ∃ b, s5 = .pointer (some ⟨b, 0, none⟩) ∧ W.heap.size ≤ b ∧ wc.heap[b]? = some (.cells #[.int .i64 (F 0).1, .int .i64 (F 0).2] 32 (0, 0)) ∧ Below W.heap.size W wc)
  case first =>
    have H := bw_drew (bw_refl W)
    have hcall := (HF.out 0 (by omega)).2
    go_region_held3 (fun w' => w'.cell? ⟨g, 0, none⟩ = some (.int .i64 (sAt ss 0).1.1) ∧ w'.cell? ⟨g, 1, none⟩ = some (.int .i64 (sAt ss 0).1.2) ∧ w'.cell? ⟨g, 2, none⟩ = some (.int .i64 (sAt ss 0).2.1) ∧ w'.cell? ⟨g, 3, none⟩ = some (.int .i64 (sAt ss 0).2.2) ∧ w'.cell? ⟨w.heap.size, 0, none⟩ = some (.int .i64 p.1) ∧ w'.cell? ⟨w.heap.size, 1, none⟩ = some (.int .i64 p.2)) (first | with_reducible exact cB6 K (by assumption) | with_reducible exact cA6 (by assumption) | exact hS0 | exact cA6 hS0 | with_reducible exact cL6 (by assumption) (by have := H.size; dsimp only; omega) (by have := H.size; dsimp only; omega) (by have := H.size; dsimp only; omega) (by have := H.size; dsimp only; omega) (by have := H.size; dsimp only; omega) (by have := H.size; dsimp only; omega) | exact cS6 (by assumption) (by dsimp only; omega) (by dsimp only; omega) (by dsimp only; omega) (by dsimp only; omega) (by dsimp only; omega) (by dsimp only; omega)) ((go_at_call 37; refine (hcall _).mono ?_; rintro e zz ⟨rfl, K⟩; (first | (replace H := bw_trans H K) | (have AB := keep K (heap_new _ _); replace H := bw_trans (bw_alloc H _) K; obtain ⟨q0, q1, qf0, qf1⟩ := blkF AB))))
    all_goals go_wp2_with fail
    all_goals go_meet
    all_goals (first | exact ⟨_, rfl, H.size, heap_new _ _, bw_alloc H _⟩ | exact ⟨_, rfl, Nat.le_refl _, setF2 AB, bw_set (bw_set H (by dsimp only; omega) _) (by dsimp only; omega) _⟩)
  case rest =>
    obtain ⟨b, rfl, hbW, hO, HC⟩ := hcut
    have hO1 : wc.heap[b]? = some (.cells #[.int .i64 (M (0 + 1)).1, .int .i64 (M (0 + 1)).2] 32 (0, 0)) := by rw [HM1.out]; exact hO
    rw [Nat.zero_add] at hO1
    have hmx : Tryz.prog.follows .mixedOrders = true := by kernel_rfl
    clear hO HM1 hS0 i0 i4
    go_wp2_with fail
    go_loopw [6] (fun i wr => ∃ k : Nat, 1 ≤ k ∧ k ≤ len ∧ i = .int .i64 k ∧ wr.heap[b]? = some (.cells #[.int .i64 (M k).1, .int .i64 (M k).2] 32 (0, 0)) ∧ Below W.heap.size W wr) (fun i _ => len - (intOf i).toNat)
    case atStart => exact ⟨1, Nat.le_refl _, h1, rfl, hO1, HC⟩
    case round =>
      obtain ⟨k, hk1, hk, rfl, LB, H⟩ := hrel
      by_cases hlt : k < len
      case neg =>
        obtain rfl : len = k := by omega
        have RB1 := keep H RB
        obtain ⟨l0, l1⟩ := blk_2 LB
        obtain ⟨q0, q1, qf0, qf1⟩ := blkF RB1
        have RB2 := setF2 RB1 (u0 := .int .i64 (M len).1) (u1 := .int .i64 (M len).2)
        obtain ⟨v0, v1⟩ := blk_2 RB2
        go_wp2_with fail
        exact bodyPost_ret (v := .agg #[.int .i64 (M len).1, .int .i64 (M len).2]) (by simp [results, Tryz.results18, go_sem, v0, v1]) rfl ⟨rfl, bw_set (bw_set (bw_trans BW H) (p := ⟨w.heap.size + 1, 0, none⟩) (by dsimp only; omega) _) (p := ⟨w.heap.size + 1, 1, none⟩) (by dsimp only; omega) _⟩
      case pos =>
        have hst := HMs.out k hk1 hlt
        have hMk := HMok.out k hk1 hk
        obtain ⟨hFk, hcall⟩ := HF.out k hlt
        obtain ⟨s0, s1, s2, s3⟩ := HS.out k hlt
        have KW := bw_trans BW H
        have d0 := (KW.cell (p := ⟨g, k * 4, none⟩) zg).trans s0
        have d1 := (KW.cell (p := ⟨g, k * 4 + 1, none⟩) zg).trans s1
        have d2 := (KW.cell (p := ⟨g, k * 4 + 2, none⟩) zg).trans s2
        have d3 := (KW.cell (p := ⟨g, k * 4 + 3, none⟩) zg).trans s3
        obtain ⟨t0, t1⟩ := blk_2 (keep H T)
        have i0 : (0 : Int) ≤ (k : Int) := Int.natCast_nonneg _
        have i1 : (k : Int) < (len : Int) := by omega
        have i2 : (k : Int) ≤ 1000 := by omega
        have HST : Hid (M (k + 1) = mn (M k) (F k)) := hst
        have hL := fun v => sLeast_ok (M k) (F k) v hMk hFk
        have zb := blk_lt LB
        have zs := H.size
        clear hst s0 s1 s2 s3 hMk hFk
        have hS1 : (fun w' : World => (w'.cell? ⟨g, k * 4, none⟩ = some (.int .i64 (sAt ss k).1.1) ∧ w'.cell? ⟨g, k * 4 + 1, none⟩ = some (.int .i64 (sAt ss k).1.2) ∧ w'.cell? ⟨g, k * 4 + 2, none⟩ = some (.int .i64 (sAt ss k).2.1) ∧ w'.cell? ⟨g, k * 4 + 3, none⟩ = some (.int .i64 (sAt ss k).2.2)) ∧ w'.cell? ⟨w.heap.size, 0, none⟩ = some (.int .i64 p.1) ∧ w'.cell? ⟨w.heap.size, 1, none⟩ = some (.int .i64 p.2)) wr.drew := ⟨⟨d0, d1, d2, d3⟩, t0, t1⟩
        generalize M k = m at *
        generalize F k = f at *
        go_wp2_with fail
        refine wp_region_held (S := (fun w' : World => (w'.cell? ⟨g, k * 4, none⟩ = some (.int .i64 (sAt ss k).1.1) ∧ w'.cell? ⟨g, k * 4 + 1, none⟩ = some (.int .i64 (sAt ss k).1.2) ∧ w'.cell? ⟨g, k * 4 + 2, none⟩ = some (.int .i64 (sAt ss k).2.1) ∧ w'.cell? ⟨g, k * 4 + 3, none⟩ = some (.int .i64 (sAt ss k).2.2)) ∧ w'.cell? ⟨w.heap.size, 0, none⟩ = some (.int .i64 p.1) ∧ w'.cell? ⟨w.heap.size, 1, none⟩ = some (.int .i64 p.2))) hmx ?_
        refine wpAnyH_take (i := 1) (v := .slice (some ⟨g, 0, none⟩) len cap) rfl (by kernel_rfl) (by kernel_rfl) (by kernel_rfl) (fun _ _ _ h => h) (Or.inl ⟨by rfl, by rintro w' ⟨⟨s1, s2, s3, s4⟩, s5, s6⟩; go_simp⟩) hS1 ?_
        refine wpAnyH_take (i := 2) (v := .int .i64 (k : Int)) rfl (by kernel_rfl) (by kernel_rfl) (by kernel_rfl) (fun _ _ _ h => h) (Or.inl ⟨by rfl, by rintro w' ⟨⟨s1, s2, s3, s4⟩, s5, s6⟩; go_simp⟩) hS1 ?_
        refine wpAnyH_take (i := 3) (v := .pointer (some ⟨g, k * 4, none⟩)) rfl (by kernel_rfl) (by kernel_rfl) (by kernel_rfl) (fun _ _ _ h => h) (Or.inl ⟨by rfl, by rintro w' ⟨⟨s1, s2, s3, s4⟩, s5, s6⟩; go_simp⟩) hS1 ?_
        refine wpAnyH_take (i := 4) (v := .agg #[.int .i64 (sAt ss k).1.1, .int .i64 (sAt ss k).1.2, .int .i64 (sAt ss k).2.1, .int .i64 (sAt ss k).2.2]) rfl (by kernel_rfl) (by kernel_rfl) (by kernel_rfl) (fun _ _ _ h => h) (Or.inl ⟨by rfl, by rintro w' ⟨⟨s1, s2, s3, s4⟩, s5, s6⟩; go_simp⟩) hS1 ?_
        refine wpAnyH_take (i := 5) (v := .agg #[.int .i64 p.1, .int .i64 p.2]) rfl (by kernel_rfl) (by kernel_rfl) (by kernel_rfl) (fun _ _ _ h => h) (Or.inl ⟨by rfl, by rintro w' ⟨⟨s1, s2, s3, s4⟩, s5, s6⟩; go_simp⟩) hS1 ?_
        obtain ⟨l0, l1⟩ := blk_2 (show wr.drew.heap[b]? = _ from LB)
        refine wpAnyH_all (rs := [0, 6]) (by kernel_rfl) (by simp) ?_
        intro i hi
        have hi' : i = 0 ∨ i = 6 := by simpa using hi
        clear hi
        rcases hi' with rfl | rfl
        · skip
          refine YieldsIf.wpOp (S := fun w' => w' = wr.drew) (v := .agg #[.int .i64 m.1, .int .i64 m.2]) rfl (Or.inl ⟨by rfl, by rintro w' rfl; go_simp⟩) rfl ⟨hS1, ?_⟩
          refine wpAnyH_all (rs := [6]) (by kernel_rfl) (by simp) ?_
          intro i hi
          obtain rfl : i = 6 := by simpa using hi
          refine wpOp_now rfl (by rfl) ?_
          go_simp
          refine (hcall _).mono ?_
          rintro e y1 ⟨rfl, J1⟩
          have hS2 : (fun w' : World => (w'.cell? ⟨g, k * 4, none⟩ = some (.int .i64 (sAt ss k).1.1) ∧ w'.cell? ⟨g, k * 4 + 1, none⟩ = some (.int .i64 (sAt ss k).1.2) ∧ w'.cell? ⟨g, k * 4 + 2, none⟩ = some (.int .i64 (sAt ss k).2.1) ∧ w'.cell? ⟨g, k * 4 + 3, none⟩ = some (.int .i64 (sAt ss k).2.2)) ∧ w'.cell? ⟨w.heap.size, 0, none⟩ = some (.int .i64 p.1) ∧ w'.cell? ⟨w.heap.size, 1, none⟩ = some (.int .i64 p.2)) y1 := ⟨cB4 J1 hS1.1, cellB J1 hS1.2.1, cellB J1 hS1.2.2⟩
          refine ⟨hS2, ?_⟩
          refine wpAnyH_all (rs := [7]) (by kernel_rfl) (by simp) ?_
          intro i hi
          obtain rfl : i = 7 := by simpa using hi
          refine wpOp_now rfl (by rfl) ?_
          go_simp
          refine (hL _).mono ?_
          rintro e y2 ⟨rfl, J2⟩
          have hS3 : (fun w' : World => (w'.cell? ⟨g, k * 4, none⟩ = some (.int .i64 (sAt ss k).1.1) ∧ w'.cell? ⟨g, k * 4 + 1, none⟩ = some (.int .i64 (sAt ss k).1.2) ∧ w'.cell? ⟨g, k * 4 + 2, none⟩ = some (.int .i64 (sAt ss k).2.1) ∧ w'.cell? ⟨g, k * 4 + 3, none⟩ = some (.int .i64 (sAt ss k).2.2)) ∧ w'.cell? ⟨w.heap.size, 0, none⟩ = some (.int .i64 p.1) ∧ w'.cell? ⟨w.heap.size, 1, none⟩ = some (.int .i64 p.2)) y2 := ⟨cB4 J2 hS2.1, cellB J2 hS2.2.1, cellB J2 hS2.2.2⟩
          refine ⟨hS3, ?_⟩
          have H2 : Below W.heap.size W y2 := bw_trans (bw_trans H.drew J1) J2
          have LB2 := keep J2 (keep J1 (show wr.drew.heap[b]? = _ from LB))
          obtain ⟨q0, q1, qf0, qf1⟩ := blkF LB2
          refine wpAnyH_all (rs := [8]) (by kernel_rfl) (by simp) ?_
          intro i hi
          obtain rfl : i = 8 := by simpa using hi
          refine wpOp_now rfl (by rfl) ?_
          go_simp
          refine wpAnyH_done (by kernel_rfl) ?_ _
          try simp only [Exit.inBlock, Exit.then]
          have LB3 := setF2 LB2 (u0 := .int .i64 (mn m f).1) (u1 := .int .i64 (mn m f).2)
          have H3 := bw_set (bw_set H2 (p := ⟨b, 0, none⟩) hbW (.int .i64 (mn m f).1)) (p := ⟨b, 1, none⟩) hbW (.int .i64 (mn m f).2)
          go_wp2_with fail
          go_roundw
          case rel => exact ⟨k + 1, by omega, by omega, by simp, by rw [HST.out]; exact LB3, H3⟩
          case measure => simp [intOf]; omega
        · skip
          refine wpOp_now rfl (by rfl) ?_
          go_simp
          refine (hcall _).mono ?_
          rintro e y1 ⟨rfl, J1⟩
          have hS2 : (fun w' : World => (w'.cell? ⟨g, k * 4, none⟩ = some (.int .i64 (sAt ss k).1.1) ∧ w'.cell? ⟨g, k * 4 + 1, none⟩ = some (.int .i64 (sAt ss k).1.2) ∧ w'.cell? ⟨g, k * 4 + 2, none⟩ = some (.int .i64 (sAt ss k).2.1) ∧ w'.cell? ⟨g, k * 4 + 3, none⟩ = some (.int .i64 (sAt ss k).2.2)) ∧ w'.cell? ⟨w.heap.size, 0, none⟩ = some (.int .i64 p.1) ∧ w'.cell? ⟨w.heap.size, 1, none⟩ = some (.int .i64 p.2)) y1 := ⟨cB4 J1 hS1.1, cellB J1 hS1.2.1, cellB J1 hS1.2.2⟩
          refine ⟨hS2, ?_⟩
          obtain ⟨l0', l1'⟩ := blk_2 (keep J1 (show wr.drew.heap[b]? = _ from LB))
          refine wpAnyH_all (rs := [0]) (by kernel_rfl) (by simp) ?_
          intro i hi
          obtain rfl : i = 0 := by simpa using hi
          refine YieldsIf.wpOp (S := fun w' => w' = y1) (v := .agg #[.int .i64 m.1, .int .i64 m.2]) rfl (Or.inl ⟨by rfl, by rintro w' rfl; go_simp⟩) rfl ⟨hS2, ?_⟩
          refine wpAnyH_all (rs := [7]) (by kernel_rfl) (by simp) ?_
          intro i hi
          obtain rfl : i = 7 := by simpa using hi
          refine wpOp_now rfl (by rfl) ?_
          go_simp
          refine (hL _).mono ?_
          rintro e y2 ⟨rfl, J2⟩
          have hS3 : (fun w' : World => (w'.cell? ⟨g, k * 4, none⟩ = some (.int .i64 (sAt ss k).1.1) ∧ w'.cell? ⟨g, k * 4 + 1, none⟩ = some (.int .i64 (sAt ss k).1.2) ∧ w'.cell? ⟨g, k * 4 + 2, none⟩ = some (.int .i64 (sAt ss k).2.1) ∧ w'.cell? ⟨g, k * 4 + 3, none⟩ = some (.int .i64 (sAt ss k).2.2)) ∧ w'.cell? ⟨w.heap.size, 0, none⟩ = some (.int .i64 p.1) ∧ w'.cell? ⟨w.heap.size, 1, none⟩ = some (.int .i64 p.2)) y2 := ⟨cB4 J2 hS2.1, cellB J2 hS2.2.1, cellB J2 hS2.2.2⟩
          refine ⟨hS3, ?_⟩
          have H2 : Below W.heap.size W y2 := bw_trans (bw_trans H.drew J1) J2
          have LB2 := keep J2 (keep J1 (show wr.drew.heap[b]? = _ from LB))
          obtain ⟨q0, q1, qf0, qf1⟩ := blkF LB2
          refine wpAnyH_all (rs := [8]) (by kernel_rfl) (by simp) ?_
          intro i hi
          obtain rfl : i = 8 := by simpa using hi
          refine wpOp_now rfl (by rfl) ?_
          go_simp
          refine wpAnyH_done (by kernel_rfl) ?_ _
          try simp only [Exit.inBlock, Exit.then]
          have LB3 := setF2 LB2 (u0 := .int .i64 (mn m f).1) (u1 := .int .i64 (mn m f).2)
          have H3 := bw_set (bw_set H2 (p := ⟨b, 0, none⟩) hbW (.int .i64 (mn m f).1)) (p := ⟨b, 1, none⟩) hbW (.int .i64 (mn m f).2)
          go_wp2_with fail
          go_roundw
          case rel => exact ⟨k + 1, by omega, by omega, by simp, by rw [HST.out]; exact LB3, H3⟩
          case measure => simp [intOf]; omega
end Go.Proofs.YthdjeabjllaaaaaGreatDoor
namespace Go.Proofs.YthdjeabjllaaaaaGreatDoor
open Go.RowKit Go.Sort

/-- A row of edges that a call made itself. -/
theorem row_of_owns {base : Nat} {W : World} {v : Value} {ss : List (P2 × P2)} (h : W.ownsRow base 79 4 v ss.length (cellsS ss)) (hs : 0 < ss.length) : ∃ g c, v = .slice (some ⟨g, 0, none⟩) ss.length c ∧ g < W.heap.size ∧ SRow W g ss := by
  have := AnsS.of_owns h rfl
  rcases this with ⟨rfl, a, c, rfl⟩ | ⟨g, c, rfl, _, _, _, hO, hS⟩
  · simp at hs
  · exact ⟨g, c, rfl, hO.lt, hS⟩
set_option maxRecDepth 100000 in
set_option maxHeartbeats 2000000 in
theorem sPlateFar_any (a ah : Option Addr) (la ca nh ch : Nat) (o : List P2) (hs : List (List P2)) (p : P2) (w : World) (h : Plt w a la ah nh o hs) :
    Calls Tryz.prog 6 #[.agg #[.slice a la ca, .slice ah nh ch], .agg #[.int .i64 p.1, .int .i64 p.2]] w fun e W' => e = .returned (.agg #[.int .i64 (plFV o hs p).1, .int .i64 (plFV o hs p).2]) ∧ Below w.heap.size w W' := by
  obtain ⟨W, hW, BW, TP, T, RB⟩ := boxes3 w (.cells #[.slice a la ca, .slice ah nh ch] 26) (.cells #[.int .i64 p.1, .int .i64 p.2] 28) (.cells #[.int .i64 0, .int .i64 0] 32)
  have hh := h.below BW
  obtain ⟨t0, t1⟩ := blk_2 TP
  have zP := blk_lt TP
  have zR := blk_lt RB
  have zB := BW.size
  have hcall := sPlateOk_any a ah la ca nh ch o hs W hh
  cases hv : plV o hs
  · rw [hv] at hcall
    have e1 : Hid (plFV o hs p = (0, 0)) := plFV_no (.inl hv)
    go_enter Tryz.func6, Tryz.ntmps6
    go_upto_region 1 with fail
    rw [← hW]
    clear hW
    go_wp2_with (go_at_call 7; refine hcall.mono ?_; rintro e w1 ⟨rfl, J⟩; have RB1 := keep J RB; obtain ⟨q0, q1, qf0, qf1⟩ := blkF RB1)
    have RB2 := setF2 RB1 (u0 := .int .i64 0) (u1 := .int .i64 0)
    obtain ⟨v0, v1⟩ := blk_2 RB2
    exact bodyPost_ret (v := .agg #[.int .i64 0, .int .i64 0]) (by simp [results, Tryz.results6, go_sem, v0, v1]) rfl ⟨by rw [e1.out], bw_set (bw_set (bw_trans BW J) (p := ⟨w.heap.size + 2, 0, none⟩) (by dsimp only; omega) _) (p := ⟨w.heap.size + 2, 1, none⟩) (by dsimp only; omega) _⟩
  rw [hv] at hcall
  cases hp : ptB p.1 p.2
  · have e1 : Hid (plFV o hs p = (0, 0)) := plFV_no (.inr hp)
    go_enter Tryz.func6, Tryz.ntmps6
    go_upto_region 1 with fail
    rw [← hW]
    clear hW
    go_wp2_with (go_at_call 7; refine hcall.mono ?_; rintro e w1 ⟨rfl, J⟩; obtain ⟨s0, s1⟩ := blk_2 (keep J T))
    refine (sPt_raw p _).mono ?_
    rw [hp]
    rintro e w2 ⟨rfl, J2⟩
    have RB1 := keep (bw_trans J J2) RB
    obtain ⟨q0, q1, qf0, qf1⟩ := blkF RB1
    have RB2 := setF2 RB1 (u0 := .int .i64 0) (u1 := .int .i64 0)
    obtain ⟨v0, v1⟩ := blk_2 RB2
    go_wp2_with fail
    exact bodyPost_ret (v := .agg #[.int .i64 0, .int .i64 0]) (by simp [results, Tryz.results6, go_sem, v0, v1]) rfl ⟨by rw [e1.out], bw_set (bw_set (bw_trans (bw_trans BW J) J2) (p := ⟨w.heap.size + 2, 0, none⟩) (by dsimp only; omega) _) (p := ⟨w.heap.size + 2, 1, none⟩) (by dsimp only; omega) _⟩
  · have e1 : Hid (plFV o hs p = plFI o hs p) := plFV_ok hv hp
    have n3 := plE_ne hv
    have n24 := plE_len o hs
    have hok : ∀ s ∈ plE o hs, sgP s.1 s.2 = true := fun s hs => plE_ok hv hs
    go_enter Tryz.func6, Tryz.ntmps6
    go_upto_region 1 with fail
    rw [← hW]
    clear hW
    go_wp2_with (go_at_call 7; refine hcall.mono ?_; rintro e w1 ⟨rfl, J⟩; obtain ⟨s0, s1⟩ := blk_2 (keep J T))
    refine (sPt_raw p _).mono ?_
    rw [hp]
    rintro e w2 ⟨rfl, J2⟩
    have J3 := bw_trans J J2
    clear s0 s1 t0 t1
    obtain ⟨s0, s1⟩ := blk_2 (keep J3 T)
    obtain ⟨t0, t1⟩ := blk_2 (keep J3 TP)
    have hmx : Tryz.prog.follows .mixedOrders = true := by kernel_rfl
    have hS1 : (fun w' : World => (w'.cell? ⟨w.heap.size, 0, none⟩ = some (.slice a la ca) ∧ w'.cell? ⟨w.heap.size, 1, none⟩ = some (.slice ah nh ch)) ∧ w'.cell? ⟨w.heap.size + 1, 0, none⟩ = some (.int .i64 p.1) ∧ w'.cell? ⟨w.heap.size + 1, 1, none⟩ = some (.int .i64 p.2)) w2.drew := ⟨⟨t0, t1⟩, s0, s1⟩
    have hE := l11Edges_ok a ah la ca nh ch o hs hv w2.drew ((hh.below J3).below (bw_drew (bw_refl _)))
    obtain ⟨N, hN⟩ : ∃ N, (plE o hs).length = N := ⟨_, rfl⟩
    have hX : Hid (∀ g c v, SRow v g (plE o hs) → g < v.heap.size → Calls Tryz.prog 18 #[.slice (some ⟨g, 0, none⟩) N c, .agg #[.int .i64 p.1, .int .i64 p.2]] v fun e W' => e = .returned (.agg #[.int .i64 (plFV o hs p).1, .int .i64 (plFV o hs p).2]) ∧ Below v.heap.size v W') := fun g c v hR hg => by
      have := sL11Far_ok g N c (plE o hs) p v hR hg hN (by omega) (by omega) hok hp
      rw [e1.out]; exact this
    clear hok n24
    go_wp2_with fail
    refine wp_region_held (S := (fun w' : World => (w'.cell? ⟨w.heap.size, 0, none⟩ = some (.slice a la ca) ∧ w'.cell? ⟨w.heap.size, 1, none⟩ = some (.slice ah nh ch)) ∧ w'.cell? ⟨w.heap.size + 1, 0, none⟩ = some (.int .i64 p.1) ∧ w'.cell? ⟨w.heap.size + 1, 1, none⟩ = some (.int .i64 p.2))) hmx ?_
    refine wpAnyH_take (i := 0) (v := .agg #[.slice a la ca, .slice ah nh ch]) rfl (by kernel_rfl) (by kernel_rfl) (by kernel_rfl) (fun _ _ _ h => h) (Or.inl ⟨by rfl, by rintro w' ⟨⟨s1, s2⟩, s3, s4⟩; go_simp⟩) hS1 ?_
    refine wpAnyH_take (i := 2) (v := .agg #[.int .i64 p.1, .int .i64 p.2]) rfl (by kernel_rfl) (by kernel_rfl) (by kernel_rfl) (fun _ _ _ h => h) (Or.inl ⟨by rfl, by rintro w' ⟨⟨s1, s2⟩, s3, s4⟩; go_simp⟩) hS1 ?_
    refine wpAnyH_all (rs := [1]) (by kernel_rfl) (by simp) ?_
    intro i hi
    obtain rfl : i = 1 := by simpa using hi
    refine wpOp_now rfl (by rfl) ?_
    go_simp
    refine hE.mono ?_
    rintro e y1 ⟨v, rfl, ho, J4⟩
    obtain ⟨g, c, rfl, hg, hR⟩ := row_of_owns ho (by omega)
    rw [hN]
    have hS2 : (fun w' : World => (w'.cell? ⟨w.heap.size, 0, none⟩ = some (.slice a la ca) ∧ w'.cell? ⟨w.heap.size, 1, none⟩ = some (.slice ah nh ch)) ∧ w'.cell? ⟨w.heap.size + 1, 0, none⟩ = some (.int .i64 p.1) ∧ w'.cell? ⟨w.heap.size + 1, 1, none⟩ = some (.int .i64 p.2)) y1 := ⟨⟨cellB J4 hS1.1.1, cellB J4 hS1.1.2⟩, cellB J4 hS1.2.1, cellB J4 hS1.2.2⟩
    refine ⟨hS2, ?_⟩
    refine wpAnyH_all (rs := [3]) (by kernel_rfl) (by simp) ?_
    intro i hi
    obtain rfl : i = 3 := by simpa using hi
    refine wpOp_now rfl (by rfl) ?_
    go_simp
    refine (hX.out g c _ hR hg).mono ?_
    rintro e y2 ⟨rfl, J5⟩
    have hS3 : (fun w' : World => (w'.cell? ⟨w.heap.size, 0, none⟩ = some (.slice a la ca) ∧ w'.cell? ⟨w.heap.size, 1, none⟩ = some (.slice ah nh ch)) ∧ w'.cell? ⟨w.heap.size + 1, 0, none⟩ = some (.int .i64 p.1) ∧ w'.cell? ⟨w.heap.size + 1, 1, none⟩ = some (.int .i64 p.2)) y2 := ⟨⟨cellB J5 hS2.1.1, cellB J5 hS2.1.2⟩, cellB J5 hS2.2.1, cellB J5 hS2.2.2⟩
    refine ⟨hS3, ?_⟩
    have RB1 := keep (bw_trans (bw_trans J3.drew J4) J5) RB
    obtain ⟨q0, q1, qf0, qf1⟩ := blkF RB1
    refine wpAnyH_all (rs := [4]) (by kernel_rfl) (by simp) ?_
    intro i hi
    obtain rfl : i = 4 := by simpa using hi
    refine wpOp_now rfl (by rfl) ?_
    go_simp
    refine wpAnyH_done (by kernel_rfl) ?_ _
    try simp only [Exit.then]
    have RB2 := setF2 RB1 (u0 := .int .i64 (plFV o hs p).1) (u1 := .int .i64 (plFV o hs p).2)
    obtain ⟨v0, v1⟩ := blk_2 RB2
    go_wp2_with fail
    exact bodyPost_ret (v := .agg #[.int .i64 (plFV o hs p).1, .int .i64 (plFV o hs p).2]) (by simp [results, Tryz.results6, go_sem, v0, v1]) rfl ⟨rfl, bw_set (bw_set (bw_trans (bw_trans (bw_trans BW J3.drew) J4) J5) (p := ⟨w.heap.size + 2, 0, none⟩) (by dsimp only; omega) _) (p := ⟨w.heap.size + 2, 1, none⟩) (by dsimp only; omega) _⟩
end Go.Proofs.YthdjeabjllaaaaaGreatDoor
namespace Go.Proofs.YthdjeabjllaaaaaGreatDoor
open Go.RowKit

theorem boxes1 (w : World) (o : Obj) : ∃ W, W = w.alloc o ∧ Below w.heap.size w W ∧ W.heap[w.heap.size]? = some o := ⟨_, rfl, (by repeat (first | exact bw_refl _ | assumption | apply bw_drewN | apply bw_drew | apply bw_alloc | refine bw_set ?_ (by simp) _)), heap_new _ _⟩
theorem luMirror_ok (x y : Int) (w : World) (h : ptB x y = true) :
    Calls Tryz.prog 26 #[.agg #[.int .i64 x, .int .i64 y]] w fun e w' => e = .returned (.agg #[.int .i64 (9-x), .int .i64 y]) ∧ Below w.heap.size w w' := by
  rw [ptB_iff] at h
  go_enter Tryz.func26, Tryz.ntmps26
  go_wp2
  exact bodyPost_ret (v := .agg #[.int .i64 (9-x), .int .i64 y]) (by simp [results, Tryz.results26, go_sem]) rfl ⟨rfl, (by repeat (first | exact bw_refl _ | assumption | apply bw_drewN | apply bw_drew | apply bw_alloc | refine bw_set ?_ (by simp) _))⟩
theorem luSwap_any (x y : Int) (w : World) :
    Calls Tryz.prog 25 #[.agg #[.int .i64 x, .int .i64 y]] w fun e w' => e = .returned (.agg #[.int .i64 y, .int .i64 x]) ∧ Below w.heap.size w w' := by
  go_enter Tryz.func25, Tryz.ntmps25
  go_wp2
  exact bodyPost_ret (v := .agg #[.int .i64 y, .int .i64 x]) (by simp [results, Tryz.results25, go_sem]) rfl ⟨rfl, (by repeat (first | exact bw_refl _ | assumption | apply bw_drewN | apply bw_drew | apply bw_alloc | refine bw_set ?_ (by simp) _))⟩
theorem pt_mir {x y : Int} (h : ptB x y = true) : ptB (9 - x) y = true := by rw [ptB_iff] at *; omega
theorem pt_swap {x y : Int} (h : ptB x y = true) : ptB y x = true := by rw [ptB_iff] at *; omega
end Go.Proofs.YthdjeabjllaaaaaGreatDoor
namespace Go.Proofs.YthdjeabjllaaaaaGreatDoor
open Go.RowKit

/-- Points that were handed back, in memory of their own. -/
def AnsP (w : World) (m : List P2) (e : Ending) (w' : World) : Prop :=
  ∃ g' c', e = .returned (.slice (some ⟨g', 0, none⟩) m.length c') ∧ PtBlk w' g' c' m m.length ∧ Below w.heap.size w w'
theorem blk_cell {W : World} {g c n : Nat} {l : List P2} (h : PtBlk W g c l n) (hl : l.length = n) : ∀ (i : Nat) u, (ptCells l)[i]? = some u → W.cell? ⟨g, i, none⟩ = some u := by
  obtain ⟨cur, hg, hs, hc⟩ := h
  intro i u hu
  have hi : i < n * 2 := by
    rcases Nat.lt_or_ge i (n * 2) with h | h
    · exact h
    · rw [List.getElem?_eq_none (by rw [ptCells_len]; omega)] at hu; cases hu
  rw [row_cell hg]
  obtain ⟨c0, c1⟩ := hc (i / 2) (by omega)
  obtain ⟨a0, a1⟩ := ptCells_at l (i / 2) (by omega)
  rcases Nat.mod_two_eq_zero_or_one i with e | e
  · have e' : i = i / 2 * 2 := by omega
    rw [e', a0] at hu; rw [e', c0]; exact hu
  · have e' : i = i / 2 * 2 + 1 := by omega
    rw [e', a1] at hu; rw [e', c1]; exact hu
theorem ptCells_drop (l : List P2) (k : Nat) : ptCells (l.drop k) = (ptCells l).drop (k * 2) := by
  induction l generalizing k with
  | nil => simp [ptCells]
  | cons p l ih =>
    cases k with
    | zero => simp
    | succ k =>
      have e : ptCells (p :: l) = .int .i64 p.1 :: .int .i64 p.2 :: ptCells l := rfl
      have e1 : (k + 1) * 2 = k * 2 + 1 + 1 := by omega
      rw [List.drop_succ_cons, ih, e, e1]; rfl
theorem ptCells_take (l : List P2) (k : Nat) : ptCells (l.take k) = (ptCells l).take (k * 2) := by
  induction l generalizing k with
  | nil => simp [ptCells]
  | cons p l ih =>
    cases k with
    | zero => simp [ptCells]
    | succ k =>
      have e : ptCells (p :: l) = .int .i64 p.1 :: .int .i64 p.2 :: ptCells l := rfl
      have e1 : (k + 1) * 2 = k * 2 + 1 + 1 := by omega
      rw [List.take_succ_cons, e, e1, List.take_succ_cons, List.take_succ_cons, ← ih]; rfl
theorem of_take {α : Type} {l : List α} {m j : Nat} {u : α} (h : (l.take m)[j]? = some u) : l[j]? = some u := by
  rw [List.getElem?_take] at h; split at h
  · exact h
  · cases h
theorem ptCells_append (a b : List P2) : ptCells (a ++ b) = ptCells a ++ ptCells b := by simp [ptCells]
theorem ptCells_one (l : List P2) : ∀ u ∈ ptCells l, u.oneCell' = true := by
  intro u hu
  simp only [ptCells, List.mem_flatMap, List.mem_cons, List.not_mem_nil, or_false] at hu
  obtain ⟨p, _, rfl | rfl⟩ := hu <;> rfl
theorem news_at {W : World} {g c n k : Nat} {l m : List P2} (h : PtBlk W g c l n) (hl : l.length = n) (hm : ∀ (j : Nat) u, (ptCells m)[j]? = some u → (ptCells l)[k * 2 + j]? = some u) :
    ∀ j u, (ptCells m)[j]? = some u → W.cell? ((⟨g, k * 2, none⟩ : Addr).add j) = some u := fun j u hu => by
  have hadd : (⟨g, k * 2, none⟩ : Addr).add j = ⟨g, k * 2 + j, none⟩ := by unfold Addr.add; split <;> simp_all
  rw [hadd]; exact blk_cell h hl _ _ (hm j u hu)
theorem news_0 {W : World} {g c n : Nat} {l m : List P2} (h : PtBlk W g c l n) (hl : l.length = n) (hm : ∀ (j : Nat) u, (ptCells m)[j]? = some u → (ptCells l)[j]? = some u) :
    ∀ j u, (ptCells m)[j]? = some u → W.cell? ((⟨g, 0, none⟩ : Addr).add j) = some u := fun j u hu => by
  have hadd : (⟨g, 0, none⟩ : Addr).add j = ⟨g, j, none⟩ := by unfold Addr.add; split <;> simp_all
  rw [hadd]; exact blk_cell h hl _ _ (hm j u hu)
theorem blk_grown {W W' : World} {g c n : Nat} {l : List P2} {row : Option Nat} (h : PtBlk W g c l n) (hg : W.grownBy W' row) (hne : some g ≠ row) : PtBlk W' g c l n := by
  have hlt := h.lt
  obtain ⟨cur, h, hs⟩ := h
  exact ⟨cur, (hg.block g hlt hne).trans h, hs⟩
/-- Append, something being there behind it, as a step of a region that draws. -/
theorem step_append_more {P : Program} {w : World} {ops : Array Oper} {o : Oper} {a : Act} {K : Act → World → Prop} {Q : Exit → Act → World → Prop} {E : Prop} (hgd : o.guard = none) (s x : Operand) (t : TypeId)
    (ho : o.op = .call { callee := .builtin .append, args := #[s, x], argTypes := #[t, t] })
    (base : Nat) (e : TypeId) (i : TypeInfo) (z : Value) (size bytes : Nat) (ht : P.underlying t = some (.slice e)) (hi : P.info? e = some i) (hz : i.zero = some z)
    (hsize : i.size = size) (hby : i.bytes = bytes) (hzs : z.cells.size = size) (hsz : 0 < size)
    (v : Value) (n : Nat) (xs : List Value) (hs : a.eval s = v) (hown : w.ownsRow base e size v n xs)
    (ad : Addr) (m c : Nat) (news : List Value) (hx : a.eval x = .slice (some ad) m c) (hl : news.length = m * size) (hnews : ∀ j u, news[j]? = some u → w.cell? (ad.add j) = some u) (h1 : ∀ u ∈ news, u.oneCell' = true)
    (hm : 0 < n + m) (h63 : n + m ≤ maxLen) (hbytes : (n + m) * bytes ≤ 140737488355328) (hbase : base ≤ w.heap.size)
    (h : ∀ g cap w', w'.ownsRow base e size (.slice (some ⟨g, 0, none⟩) (n + m) cap) (n + m) (xs ++ news) → w.grownBy w' v.ownBlock → base ≤ g → K (a.put o.dst (.slice (some ⟨g, 0, none⟩) (n + m) cap)) w') :
    if Region.wanted o (yielded ops a.tmps) = true then Oper.wp P o a w K Q else E := by
  have hw : Region.wanted o (yielded ops a.tmps) = true := by simp [Region.wanted, hgd]
  rw [if_pos hw]
  obtain ⟨v', w', hr, h2, h3, _⟩ := run_append_own (P := P) w base t o.type e i z size bytes ht hi hz hsize hby hzs hsz v n xs hown ad m c news hl hnews h1 h63 hbytes hbase
  obtain ⟨g, cap, rfl, hb, _⟩ := h2.form hm
  unfold Oper.wp execOp
  simp only [ho, resolve, invoke, builtin, Sem.run_bind, Sem.run_pure, Result.andThen_ok, List.map_toArray, List.map_cons, List.map_nil, hs, hx, hr]
  exact h g cap w' h2 h3 hb
theorem luPlace_f (p : P2) (h : ptB p.1 p.2 = true) (w : World) : Calls Tryz.prog 10 #[.agg #[.int .i64 p.1, .int .i64 p.2], .bool false] w fun e w' => e = .returned (.agg #[.int .i64 (mirP p).1, .int .i64 (mirP p).2]) ∧ Below w.heap.size w w' := by
  go_enter Tryz.func10, Tryz.ntmps10
  go_wp2_with fail
  refine (luMirror_ok p.1 p.2 _ h).mono ?_
  rintro e w1 ⟨rfl, J⟩
  obtain ⟨hc, hf⟩ := bcell J
  have z := J.size
  simp only [World.size_alloc] at z
  go_wp2_with fail
  exact bodyPost_ret (v := .agg #[.int .i64 (9 - p.1), .int .i64 p.2]) (by simp [results, Tryz.results10, go_sem, hc]) rfl ⟨rfl, bw_set (bw_set (bw_trans (by repeat (first | exact bw_refl _ | assumption | apply bw_drewN | apply bw_drew | apply bw_alloc | refine bw_set ?_ (by simp) _)) J) (by simp) _) (by simp) _⟩
theorem luPlace_t (p : P2) (w : World) : Calls Tryz.prog 10 #[.agg #[.int .i64 p.1, .int .i64 p.2], .bool true] w fun e w' => e = .returned (.agg #[.int .i64 (swpP p).1, .int .i64 (swpP p).2]) ∧ Below w.heap.size w w' := by
  go_enter Tryz.func10, Tryz.ntmps10
  go_wp2_with fail
  refine (luSwap_any p.1 p.2 _).mono ?_
  rintro e w1 ⟨rfl, J⟩
  obtain ⟨hc, hf⟩ := bcell J
  have z := J.size
  simp only [World.size_alloc] at z
  go_wp2_with fail
  exact bodyPost_ret (v := .agg #[.int .i64 p.2, .int .i64 p.1]) (by simp [results, Tryz.results10, go_sem, hc]) rfl ⟨rfl, bw_set (bw_set (bw_trans (by repeat (first | exact bw_refl _ | assumption | apply bw_drewN | apply bw_drew | apply bw_alloc | refine bw_set ?_ (by simp) _)) J) (by simp) _) (by simp) _⟩
set_option maxRecDepth 100000 in
set_option maxHeartbeats 2000000 in
theorem luOver_ok (f : P2 → P2) (sw : Bool) (g n c : Nat) (l : List P2) (w : World) (hf : ∀ i, i < n → ∀ w, Calls Tryz.prog 10 #[.agg #[.int .i64 (ptAt l i).1, .int .i64 (ptAt l i).2], .bool sw] w fun e w' => e = .returned (.agg #[.int .i64 (f (ptAt l i)).1, .int .i64 (f (ptAt l i)).2]) ∧ Below w.heap.size w w')
    (hb : PtBlk w g c l n) (hl : l.length = n) (hn1 : 1 ≤ n) (hn : n ≤ 100) :
    Calls Tryz.prog 24 #[.slice (some ⟨g, 0, none⟩) n c, .bool sw] w (AnsP w (l.map f)) := by
  obtain ⟨i0, hi0, hz0, hz1, hz2⟩ := info_parts Tryz.infoPt
  have zg := hb.lt
  obtain ⟨_, hPc⟩ := hb.pts' hl
  rcases hPc with h0 | ⟨b, off, hbo, hbl, hcs⟩
  · omega
  cases hbo
  have HL : Hid (l.length = n) := hl
  have HF : Hid (∀ i, i < n → ∀ w, Calls Tryz.prog 10 #[.agg #[.int .i64 (ptAt l i).1, .int .i64 (ptAt l i).2], .bool sw] w fun e w' => e = .returned (.agg #[.int .i64 (f (ptAt l i)).1, .int .i64 (f (ptAt l i)).2]) ∧ Below w.heap.size w w') := hf
  clear hl hf
  go_enter Tryz.func24, Tryz.ntmps24
  go_wp2_with fail
  go_loopw [5, 6] (fun o i wr => ∃ k : Nat, k ≤ n ∧ i = .int .i64 k ∧ wr.ownsRow w.heap.size 28 2 o k (ptCells ((l.map f).take k)) ∧ Below w.heap.size w wr) (fun _ i _ => n - (intOf i).toNat)
  case atStart => exact ⟨0, Nat.zero_le _, by simp, World.ownsRow_made w #[] 0 (Nat.le_refl _) (by simp [maxLen]) rfl, (by repeat (first | exact bw_refl _ | assumption | apply bw_drewN | apply bw_drew | apply bw_alloc | refine bw_set ?_ (by simp) _))⟩
  case round =>
    obtain ⟨k, hk, rfl, hown, hnx⟩ := hrel
    by_cases hlt : k < n
    · have d0 := (hnx.cell (p := ⟨g, 0 + k * 2, none⟩) hbl).trans (hcs k hlt).1
      have d1 := (hnx.cell (p := ⟨g, 0 + k * 2 + 1, none⟩) hbl).trans (hcs k hlt).2
      simp only [Nat.zero_add] at d0 d1
      have hsn : Hid (ptCells ((l.map f).take (k + 1)) = ptCells ((l.map f).take k) ++ [.int .i64 (f (ptAt l k)).1, .int .i64 (f (ptAt l k)).2]) := by
        change _ = _
        have e : (l.map f).take (k + 1) = (l.map f).take k ++ [f (ptAt l k)] := by
          rw [List.take_add_one]
          simp [ptAt, HL.out, hlt]
        rw [e, ptCells_snoc]
      have hzz := hnx.size
      have hcall := HF.out k hlt wr
      go_wp2_with (first | (go_at_call 10; refine hcall.mono ?_; rintro e w7 ⟨rfl, J⟩; have hown7 := hown.kept (w' := w7) (row := none) ⟨J.os, J.tape, J.output, J.size, fun j hj _ => J.block j hj⟩ (Classical.em _); have hn7 := bw_trans hnx J; have hz7 := hn7.size) | (at_builtin; refine wpList_append_lies _ rfl _ _ _ rfl w.heap.size 28 i0 _ 2 16 Tryz.underlying23 hi0 hz0 hz1 hz2 rfl (by omega) _ k _ rfl (hown7.alloc _) ⟨w7.heap.size, 0, none⟩ 1 1 [.int .i64 (f (ptAt l k)).1, .int .i64 (f (ptAt l k)).2] rfl rfl (World.news_of_block (cs := #[.int .i64 (f (ptAt l k)).1, .int .i64 (f (ptAt l k)).2]) (t := 28) (fr := (0, 0)) (heap_alloc_new w7 _)) (by simp [Value.oneCell']) (by omega) (by simp [maxLen]; omega) (by omega) (by simp; omega) (w7.heap.size + 1) (by simp) ?_; intro gg cap' w8 hown1 hgrow hat hlt1))
      go_roundw
      case rel => exact ⟨k + 1, by omega, by simp, by rw [hsn.out]; exact hown1, (hn7.alloc hn7.size _).grown hgrow (by simp; omega) (fun j e => (hown7.lt j e).1)⟩
      case measure => simp [intOf]; omega
    · obtain rfl : k = n := by omega
      rw [List.take_of_length_le (by rw [List.length_map, HL.out]; exact Nat.le_refl _)] at hown
      obtain ⟨g2, c2, rfl, _, _⟩ := hown.form (by omega)
      obtain ⟨hb3, _, _, _⟩ := blk_of_own hown (by rw [List.length_map]; exact HL.out)
      go_wp2_with fail
      go_ret
      exact ⟨g2, c2, by rw [List.length_map, HL.out]; rfl, by rw [List.length_map, HL.out]; exact hb3, hnx⟩
end Go.Proofs.YthdjeabjllaaaaaGreatDoor
namespace Go.Proofs.YthdjeabjllaaaaaGreatDoor
open Go.RowKit Go.Sort

theorem plInV_ok {o : List P2} {hs : List (List P2)} {p : P2} (h : plV o hs = true) (hp : ptB p.1 p.2 = true) : plInV o hs p = plI o hs p := by unfold plInV; rw [h, hp]; rfl
theorem plInV_no {o : List P2} {hs : List (List P2)} {p : P2} (h : plV o hs = false) : plInV o hs p = -1 := by unfold plInV; rw [h]; rfl
theorem inV_ok {l : List P2} {p : P2} (h : okV l = true) (hp : ptB p.1 p.2 = true) : inV l p = inI l p := by unfold inV; rw [h, hp]; rfl
theorem Plt.less {W : World} {a ah : Option Addr} {la m : Nat} {o x : List P2} {hs : List (List P2)} (h : Plt W a la ah (m + 1) o (hs ++ [x])) : Plt W a la ah m o hs := by
  obtain ⟨h1, h2, h3, A, L, C, h4, h5⟩ := h
  have hm : hs.length = m := by simpa using h3
  refine ⟨h1, h2, hm, A, L, C, ?_, fun j hj => ?_⟩
  · rcases h4 with h | ⟨b, off, e, hb, hc⟩
    · omega
    · exact .inr ⟨b, off, e, hb, fun j hj => hc j (by omega)⟩
  · have := h5 j (by omega)
    rwa [List.getElem?_append_left (by omega)] at this
theorem PlD.hole {base : Nat} {W : World} {o : LoopT} {gh ch : Nat} {hs : List LoopT} (h : PlD base W o (.slice (some ⟨gh, 0, none⟩) hs.length ch) hs) {j : Nat} (hj : j < hs.length) :
    ∃ gt nt ct lt, hs[j]? = some (⟨gt, nt, ct, lt⟩ : LoopT) ∧ (hs.map LoopT.l)[j]?.getD [] = lt ∧ W.cell? ⟨gh, j, none⟩ = some (.slice (some ⟨gt, 0, none⟩) nt ct) ∧ 3 ≤ nt ∧ nt ≤ 8 ∧ lt.length = nt ∧ PtBlk W gt ct lt nt := by
  obtain ⟨_, _, hr, ht⟩ := h
  have hc := own_news hr (j := j) (u := (hs[j]).v) (by simp [hj])
  rw [show ((⟨gh, 0, none⟩ : Addr).add j) = ⟨gh, j, none⟩ by unfold Addr.add; split <;> simp_all] at hc
  have hk := ht hs[j] (List.getElem_mem hj)
  have e1 : hs[j]? = some hs[j] := by simp [hj]
  have e2 : (hs.map LoopT.l)[j]?.getD [] = hs[j].l := by simp [hj]
  generalize hs[j] = t at *
  obtain ⟨gt, nt, ct, lt⟩ := t
  obtain ⟨k1, k2, k3, k4, k5, k6, k7⟩ := hk
  exact ⟨gt, nt, ct, lt, e1, e2, hc, k1, k2, k3, k7⟩
theorem blk_pt {W : World} {g c n k : Nat} {l : List P2} (h : PtBlk W g c l n) (hk : k < n) : W.cell? ⟨g, k * 2, none⟩ = some (.int .i64 (ptAt l k).1) ∧ W.cell? ⟨g, k * 2 + 1, none⟩ = some (.int .i64 (ptAt l k).2) := by
  obtain ⟨cur, h, hs, hc⟩ := h
  rw [row_cell h, row_cell h]; exact hc k hk
theorem plt_one {W : World} {a x : Option Addr} {la lx cx b : Nat} {o xs : List P2} {t : TypeId} (hla : la ≤ 1048576) (hO : Pts W.heap.size W a la o) (hb : W.heap[b]? = some (.cells #[.slice x lx cx] t (0, 0))) (hlx : lx ≤ 1048576) (hx : Pts W.heap.size W x lx xs) : Plt W a la (some ⟨b, 0, none⟩) 1 o [xs] := by
  refine ⟨hla, hO, rfl, fun _ => x, fun _ => lx, fun _ => cx, .inr ⟨b, 0, rfl, blk_lt hb, fun j hj => ?_⟩, fun j hj => ?_⟩
  · obtain rfl : j = 0 := by omega
    rw [row_cell hb]; rfl
  · obtain rfl : j = 0 := by omega
    exact ⟨hlx, hx⟩
theorem plt_two {W : World} {a x : Option Addr} {la lx cx b : Nat} {o xs : List P2} {t : TypeId} (hla : la ≤ 1048576) (hO : Pts W.heap.size W a la o) (hb : W.heap[b]? = some (.cells #[.slice x lx cx, .slice x lx cx] t (0, 0))) (hlx : lx ≤ 1048576) (hx : Pts W.heap.size W x lx xs) : Plt W a la (some ⟨b, 0, none⟩) 2 o [xs, xs] := by
  refine ⟨hla, hO, rfl, fun _ => x, fun _ => lx, fun _ => cx, .inr ⟨b, 0, rfl, blk_lt hb, fun j hj => ?_⟩, fun j hj => ?_⟩
  · obtain rfl | rfl : j = 0 ∨ j = 1 := by omega
    · rw [row_cell hb]; rfl
    · rw [row_cell hb]; rfl
  · obtain rfl | rfl : j = 0 ∨ j = 1 := by omega
    · exact ⟨hlx, hx⟩
    · exact ⟨hlx, hx⟩
theorem plt_nil {W : World} {a : Option Addr} {la : Nat} {o : List P2} (hla : la ≤ 1048576) (hO : Pts W.heap.size W a la o) : Plt W a la none 0 o [] :=
  ⟨hla, hO, rfl, fun _ => none, fun _ => 0, fun _ => 0, .inl rfl, fun _ hj => absurd hj (Nat.not_lt_zero _)⟩
end Go.Proofs.YthdjeabjllaaaaaGreatDoor
namespace Go.Proofs.YthdjeabjllaaaaaGreatDoor
open Go.RowKit Go.Sort

/-- A loop in our own memory. -/
def LoopT.in (W : World) (t : LoopT) : Prop := 3 ≤ t.n ∧ t.n ≤ 8 ∧ t.l.length = t.n ∧ PtBlk W t.g t.c t.l t.n
theorem LoopT.ok.in {base : Nat} {W : World} {t : LoopT} (h : t.ok base W) : t.in W := ⟨h.1, h.2.1, h.2.2.1, h.2.2.2.2.2.2⟩
theorem LoopT.in.below {W W' : World} {t : LoopT} (h : t.in W) (J : Below W.heap.size W W') : t.in W' := ⟨h.1, h.2.1, h.2.2.1, h.2.2.2.below J⟩
theorem LoopT.in.only {r : Nat} {W W' : World} {t : LoopT} (h : t.in W) (O : Only r W W') (hr : t.g ≠ r) : t.in W' := ⟨h.1, h.2.1, h.2.2.1, blk_only h.2.2.2 O hr⟩
theorem LoopT.in.grown {W W' : World} {t : LoopT} {row : Option Nat} (h : t.in W) (hg : W.grownBy W' row) (hne : some t.g ≠ row) : t.in W' := ⟨h.1, h.2.1, h.2.2.1, blk_grown h.2.2.2 hg hne⟩
theorem LoopT.in.ne_own {W : World} {t : LoopT} {base n : Nat} {v : Value} {xs : List Value} (h : t.in W) (ho : W.ownsRow base 23 1 v n xs) : some t.g ≠ v.ownBlock := by
  intro e
  rcases ho.2 with ⟨e1, e2⟩ | ⟨g', c', cur', e1, hb, hg, _⟩
  · subst e1; simp [Value.ownBlock] at e
  · subst e1
    obtain ⟨cur, hc, _⟩ := h.2.2.2
    have e' : t.g = g' := Option.some.inj e
    rw [e', hg] at hc; simp at hc
theorem LoopT.in.ne_box {W : World} {t : LoopT} {b : Nat} {cs : Array Value} (h : t.in W) (hL : Lies b cs 26 W) : t.g ≠ b := by
  intro e
  obtain ⟨cur, hc, _⟩ := h.2.2.2
  unfold Lies at hL
  rw [e, hL] at hc; simp at hc
theorem own_ne_box {W : World} {b base n : Nat} {cs : Array Value} {v : Value} {xs : List Value} (ho : W.ownsRow base 23 1 v n xs) (hL : Lies b cs 26 W) : v.ownBlock ≠ some b := by
  intro e
  rcases ho.2 with ⟨e1, e2⟩ | ⟨g', c', cur', e1, hb, hg, _⟩
  · subst e1; simp [Value.ownBlock] at e
  · subst e1
    have e' : g' = b := Option.some.inj e
    unfold Lies at hL
    rw [e', hL] at hg; simp at hg
/-- A plate of loops in our own memory. -/
def PlN (base : Nat) (W : World) (o : LoopT) (hv : Value) (hs : List LoopT) : Prop := o.in W ∧ W.ownsRow base 23 1 hv hs.length (hs.map LoopT.v) ∧ ∀ t ∈ hs, t.in W
theorem PlN.below {base : Nat} {W W' : World} {o : LoopT} {hv : Value} {hs : List LoopT} (h : PlN base W o hv hs) (J : Below W.heap.size W W') : PlN base W' o hv hs := ⟨h.1.below J, own_below h.2.1 J, fun t ht => (h.2.2 t ht).below J⟩
theorem PlN.only {base r : Nat} {W W' : World} {o : LoopT} {hv : Value} {hs : List LoopT} (h : PlN base W o hv hs) (O : Only r W W') (ho : o.g ≠ r) (hr : hv.ownBlock ≠ some r) (ht : ∀ t ∈ hs, t.g ≠ r) : PlN base W' o hv hs := ⟨h.1.only O ho, own_only' h.2.1 O hr, fun t hh => (h.2.2 t hh).only O (ht t hh)⟩
theorem PlN.mono {base base' : Nat} {W : World} {o : LoopT} {hv : Value} {hs : List LoopT} (h : PlN base W o hv hs) (hb : base' ≤ base) : PlN base' W o hv hs := ⟨h.1, own_mono h.2.1 hb, h.2.2⟩
theorem PlN.plt {base : Nat} {W : World} {o : LoopT} {hv : Value} {hs : List LoopT} (h : PlN base W o hv hs) : ∃ ah ch, hv = .slice ah hs.length ch ∧ Plt W (some ⟨o.g, 0, none⟩) o.n ah hs.length o.l (hs.map LoopT.l) := by
  obtain ⟨⟨h1, h2, h3, h7⟩, hr, ht⟩ := h
  rcases hr.2 with ⟨e1, e2⟩ | ⟨gh, ch, cur, e1, hb, hg, _⟩
  · obtain rfl : hs = [] := List.eq_nil_of_length_eq_zero e2
    exact ⟨none, 0, e1, by omega, blk_pts h7 h3, rfl, fun _ => none, fun _ => 0, fun _ => 0, .inl rfl, fun j hj => by simp at hj⟩
  · subst e1
    refine ⟨_, _, rfl, by omega, blk_pts h7 h3, by simp, fun j => some ⟨(hs[j]?.map LoopT.g).getD 0, 0, none⟩, fun j => (hs[j]?.map LoopT.n).getD 0, fun j => (hs[j]?.map LoopT.c).getD 0, .inr ⟨gh, 0, rfl, (hr.lt gh rfl).2, fun j hj => ?_⟩, fun j hj => ?_⟩
    · have := own_news hr (j := j) (u := (hs[j]).v) (by simp [hj])
      simp only [List.getElem?_eq_getElem hj, Option.map_some, Option.getD_some]
      rw [show ((⟨gh, 0, none⟩ : Addr).add j) = ⟨gh, j, none⟩ by unfold Addr.add; split <;> simp_all] at this
      rw [Nat.zero_add]; exact this
    · obtain ⟨k1, k2, k3, k7⟩ := ht hs[j] (List.getElem_mem hj)
      simp only [List.getElem?_map, List.getElem?_eq_getElem hj, Option.map_some, Option.getD_some]
      exact ⟨by omega, blk_pts k7 k3⟩
set_option maxRecDepth 100000 in
set_option maxHeartbeats 8000000 in
theorem luPlate_ok (f : P2 → P2) (sw : Bool) (base : Nat) (o : LoopT) (gh ch : Nat) (hs : List LoopT) (w : World) (hD : PlD base w o (.slice (some ⟨gh, 0, none⟩) hs.length ch) hs)
    (hf : ∀ t, t = o ∨ t ∈ hs → ∀ i, i < t.n → ∀ w, Calls Tryz.prog 10 #[.agg #[.int .i64 (ptAt t.l i).1, .int .i64 (ptAt t.l i).2], .bool sw] w fun e w' => e = .returned (.agg #[.int .i64 (f (ptAt t.l i)).1, .int .i64 (f (ptAt t.l i)).2]) ∧ Below w.heap.size w w') :
    Calls Tryz.prog 9 #[.agg #[o.v, .slice (some ⟨gh, 0, none⟩) hs.length ch], .bool sw] w fun e w' => ∃ (o' : LoopT) (hv : Value) (hs' : List LoopT), e = .returned (.agg #[o'.v, hv]) ∧ PlN w.heap.size w' o' hv hs' ∧ o'.l = o.l.map f ∧ hs'.map LoopT.l = hs.map (fun t => t.l.map f) ∧ Below w.heap.size w w' := by
  obtain ⟨i0, hi0, hz0, hz1, hz2⟩ := info_parts Tryz.infoPts
  have hmx : Tryz.prog.follows .mixedOrders = true := by kernel_rfl
  have hfo := hf o (.inl rfl)
  have HF : Hid (∀ t, t ∈ hs → ∀ i, i < t.n → ∀ w, Calls Tryz.prog 10 #[.agg #[.int .i64 (ptAt t.l i).1, .int .i64 (ptAt t.l i).2], .bool sw] w fun e w' => e = .returned (.agg #[.int .i64 (f (ptAt t.l i)).1, .int .i64 (f (ptAt t.l i)).2]) ∧ Below w.heap.size w w') := fun t ht => hf t (.inr ht)
  clear hf
  obtain ⟨g, n, c, l⟩ := o
  obtain ⟨W, hW, BW, T, Z⟩ := boxes2 w (.cells #[.slice (some ⟨g, 0, none⟩) n c, .slice (some ⟨gh, 0, none⟩) hs.length ch] 26) (.cells #[.slice none 0 0, .slice none 0 0] 26)
  have hDW := hD.below BW
  obtain ⟨o1, o2, o3, o4, o5, o6, o7⟩ := hDW.1
  show Calls Tryz.prog 9 #[.agg #[.slice (some ⟨g, 0, none⟩) n c, .slice (some ⟨gh, 0, none⟩) hs.length ch], .bool sw] w _
  go_enter Tryz.func9, Tryz.ntmps9
  go_wp2_with fail
  rw [← hW]
  clear hW
  refine (luOver_ok f sw g n c l _ hfo o7 o3 (by show 1 ≤ n; have : 3 ≤ n := o1; omega) (by show n ≤ 100; have : n ≤ 8 := o2; omega)).mono ?_
  have o3' : l.length = n := o3
  have o1' : 3 ≤ n := o1
  have o2' : n ≤ 8 := o2
  have hln : (l.map f).length = n := by simp [o3']
  rintro e w1 ⟨g1, c1, rfl, hb1, J1⟩
  rw [hln] at hb1
  rw [hln]
  have K1 := bw_trans BW J1
  replace T := keep J1 T
  replace Z := keep J1 Z
  have hD1 := hDW.below J1
  have zT := blk_lt T
  have zZ := blk_lt Z
  have zg1 := hb1.lt
  have Bq : Below w1.heap.size w1 (w1.alloc (.cells #[.slice (some ⟨g1, 0, none⟩) n c1, .slice none 0 0] 26)) := (by repeat (first | exact bw_refl _ | assumption | apply bw_drewN | apply bw_drew | apply bw_alloc | refine bw_set ?_ (by simp) _))
  have Lp : Lies w1.heap.size #[.slice (some ⟨g1, 0, none⟩) n c1, .slice none 0 0] 26 (w1.alloc (.cells #[.slice (some ⟨g1, 0, none⟩) n c1, .slice none 0 0] 26)) := Lies.new w1 _ _
  have hN0 : PlN w1.heap.size (w1.alloc (.cells #[.slice (some ⟨g1, 0, none⟩) n c1, .slice none 0 0] 26)) ⟨g1, n, c1, l.map f⟩ (.slice none 0 0) [] := ⟨LoopT.in.below ⟨o1', o2', hln, hb1⟩ Bq, ⟨rfl, .inl ⟨rfl, rfl⟩⟩, fun t ht => by simp at ht⟩
  have hghw : gh < w.heap.size := (hD.2.2.1.lt gh rfl).2
  clear BW J1 hDW hD o7
  go_wp2_with fail
  go_loopw [6] (fun i wr => ∃ (k : Nat) (hv : Value) (hs' : List LoopT), k ≤ hs.length ∧ i = .int .i64 k ∧ Lies w1.heap.size #[.slice (some ⟨g1, 0, none⟩) n c1, hv] 26 wr ∧ PlN w1.heap.size wr ⟨g1, n, c1, l.map f⟩ hv hs' ∧ hs'.length = k ∧ hs'.map LoopT.l = (hs.take k).map (fun t => t.l.map f) ∧ Below w1.heap.size w1 wr) (fun i _ => hs.length - (intOf i).toNat)
  case atStart => exact ⟨0, _, [], Nat.zero_le _, rfl, Lp, hN0, rfl, rfl, Bq⟩
  case round =>
    obtain ⟨k, hv, hs', hk, rfl, Lo, hN, hkl, hmap, hnx⟩ := hrel
    have T2 := keep hnx T
    have Z2 := keep hnx Z
    obtain ⟨t0, t1⟩ := blk_2 T2
    have K2 := bw_trans K1 hnx
    by_cases hlt : k < hs.length
    case neg =>
      obtain rfl : k = hs.length := by omega
      rw [List.take_of_length_le (Nat.le_refl _)] at hmap
      obtain ⟨d0, d1, _, _⟩ := lies2 Lo
      obtain ⟨y0, y1, f0, f1⟩ := lies2 (b := w.heap.size + 1) Z2
      obtain ⟨ah, ch', rfl⟩ : ∃ ah ch', hv = .slice ah hs.length ch' := by have := own_slice hN.2.1; rwa [hkl] at this
      have Z3 := setB2 (u0 := .slice (some ⟨g1, 0, none⟩) n c1) (u1 := .slice ah hs.length ch') Z2
      obtain ⟨v0, v1, _, _⟩ := blk2 Z3
      go_wp2_with fail
      refine bodyPost_ret (v := .agg #[.slice (some ⟨g1, 0, none⟩) n c1, .slice ah hs.length ch']) (by simp [results, Tryz.results9, go_sem, v0, v1]) rfl ?_
      have Q1 : Only (w.heap.size + 1) wr ((wr.setCell ⟨w.heap.size + 1, 0, none⟩ (.slice (some ⟨g1, 0, none⟩) n c1)).setCell ⟨w.heap.size + 1, 1, none⟩ (.slice ah hs.length ch')) := ((Only.refl (w.heap.size + 1) wr).set (.inl rfl) _).set (.inl rfl) _
      have hne : ∀ t : LoopT, t.in wr → t.g ≠ w.heap.size + 1 := fun t ht => ht.ne_box (cs := #[.slice none 0 0, .slice none 0 0]) Z2
      refine ⟨⟨g1, n, c1, l.map f⟩, _, hs', rfl, (hN.only Q1 (hne _ hN.1) ?_ (fun t ht => hne t (hN.2.2 t ht))).mono (by omega), rfl, hmap, (K2.setCell (p := ⟨w.heap.size + 1, 0, none⟩) (Nat.le_succ _) _).setCell (p := ⟨w.heap.size + 1, 1, none⟩) (Nat.le_succ _) _⟩
      exact own_ne_box hN.2.1 (cs := #[.slice none 0 0, .slice none 0 0]) Z2
    case pos =>
      obtain ⟨gt, nt, ct, lt, ht1, ht2, htc, nt3, nt8, htl, htb⟩ := (hD1.below hnx).hole hlt
      have i0' : (0 : Int) ≤ (k : Int) := Int.natCast_nonneg _
      have i1' : (k : Int) < (hs.length : Int) := by omega
      have hcall := luOver_ok f sw gt nt ct lt wr.drew (HF.out ⟨gt, nt, ct, lt⟩ (List.mem_of_getElem? ht1)) (htb.below (bw_drew (bw_refl _))) htl (by omega) (by omega)
      obtain ⟨d0, d1, f0, f1⟩ := lies2 Lo
      obtain ⟨d0, d1, f0, f1⟩ := lies2 Lo
      obtain ⟨d0, d1, f0, f1⟩ := lies2 Lo
      obtain ⟨d0, d1, f0, f1⟩ := lies2 Lo
      obtain ⟨d0, d1, f0, f1⟩ := lies2 Lo
      have hkk : hs'.length ≤ 4 := by rw [hkl]; have := hD1.2.1; omega
      obtain ⟨d0, d1, f0, f1⟩ := lies2 Lo
      have hmax : hs'.length + 1 ≤ maxLen := by simp [maxLen]; omega
      have hlt3 : (lt.map f).length = nt := by simp [htl]
      have zPB : w.heap.size < wr.heap.size := blk_lt T2
      have zGHw : gh < w.heap.size := hghw
      have zGH : gh < wr.heap.size := by omega
      have zw1 := hnx.size
      have k4 : (k : Int) ≤ 4 := by have := hD1.2.1; omega
      have Hkl : Hid (hs'.length = k) := hkl
      clear t0 hkl
      go_wp2_with fail
      refine wp_region_held (S := (fun w' : World => w'.cell? ⟨w.heap.size, 1, none⟩ = some (.slice (some ⟨gh, 0, none⟩) hs.length ch) ∧ w'.cell? ⟨gh, k, none⟩ = some (.slice (some ⟨gt, 0, none⟩) nt ct))) hmx ?_
      have hS0 : (fun w' : World => w'.cell? ⟨w.heap.size, 1, none⟩ = some (.slice (some ⟨gh, 0, none⟩) hs.length ch) ∧ w'.cell? ⟨gh, k, none⟩ = some (.slice (some ⟨gt, 0, none⟩) nt ct)) wr.drew := ⟨t1, htc⟩
      refine wpAnyH_take (i := 0) (v := .pointer (some ⟨w1.heap.size, 1, none⟩)) rfl (by kernel_rfl) (by kernel_rfl) (by kernel_rfl) (fun _ _ _ h => h) (Or.inl ⟨by rfl, by rintro w' ⟨s1, s2⟩; go_simp⟩) hS0 ?_
      refine wpAnyH_take (i := 2) (v := .pointer (some ⟨w.heap.size, 1, none⟩)) rfl (by kernel_rfl) (by kernel_rfl) (by kernel_rfl) (fun _ _ _ h => h) (Or.inl ⟨by rfl, by rintro w' ⟨s1, s2⟩; go_simp⟩) hS0 ?_
      refine wpAnyH_take (i := 4) (v := .int .i64 (k : Int)) rfl (by kernel_rfl) (by kernel_rfl) (by kernel_rfl) (fun _ _ _ h => h) (Or.inl ⟨by rfl, by rintro w' ⟨s1, s2⟩; go_simp⟩) hS0 ?_
      refine wpAnyH_take (i := 7) (v := .bool sw) rfl (by kernel_rfl) (by kernel_rfl) (by kernel_rfl) (fun _ _ _ h => h) (Or.inl ⟨by rfl, by rintro w' ⟨s1, s2⟩; go_simp⟩) hS0 ?_
      refine wpAnyH_take (i := 3) (v := .slice (some ⟨gh, 0, none⟩) hs.length ch) rfl (by kernel_rfl) (by kernel_rfl) (by kernel_rfl) (fun _ _ _ h => h) (Or.inl ⟨by rfl, by rintro w' ⟨s1, s2⟩; go_simp⟩) hS0 ?_
      refine wpAnyH_take (i := 5) (v := .pointer (some ⟨gh, k, none⟩)) rfl (by kernel_rfl) (by kernel_rfl) (by kernel_rfl) (fun _ _ _ h => h) (Or.inl ⟨by rfl, by rintro w' ⟨s1, s2⟩; go_simp⟩) hS0 ?_
      refine wpAnyH_take (i := 6) (v := .slice (some ⟨gt, 0, none⟩) nt ct) rfl (by kernel_rfl) (by kernel_rfl) (by kernel_rfl) (fun _ _ _ h => h) (Or.inl ⟨by rfl, by rintro w' ⟨s1, s2⟩; go_simp⟩) hS0 ?_
      refine wpAnyH_all (rs := [1, 8]) (by kernel_rfl) (by simp) ?_
      intro i hi
      have hi' : i = 1 ∨ i = 8 := by simpa using hi
      clear hi
      rcases hi' with rfl | rfl
      · skip
        refine YieldsIf.wpOp (S := fun w' => w' = wr.drew) (v := hv) rfl (Or.inl ⟨by rfl, by rintro w' rfl; go_simp⟩) rfl ⟨hS0, ?_⟩
        refine wpAnyH_all (rs := [8]) (by kernel_rfl) (by simp) ?_
        intro i hi
        obtain rfl : i = 8 := by simpa using hi
        refine wpOp_now rfl (by rfl) ?_
        go_simp
        refine hcall.mono ?_
        rintro e w3 ⟨g3, c3, rfl, hb3, J3⟩
        obtain ⟨n3, l3, hn3, hl3, hin3⟩ : ∃ n3 l3, (lt.map f).length = n3 ∧ lt.map f = l3 ∧ LoopT.in w3 ⟨g3, n3, c3, l3⟩ := ⟨nt, lt.map f, hlt3, rfl, nt3, nt8, hlt3, by rw [hlt3] at hb3; exact hb3⟩
        rw [hn3]
        have PB3 := (show Lies w.heap.size #[.slice (some ⟨g, 0, none⟩) n c, .slice (some ⟨gh, 0, none⟩) hs.length ch] 26 wr.drew from T2).below J3
        have Lo3 := (show Lies w1.heap.size #[.slice (some ⟨g1, 0, none⟩) n c1, hv] 26 wr.drew from Lo).below J3
        have hN3 := (show PlN w1.heap.size wr.drew ⟨g1, n, c1, l.map f⟩ hv hs' from hN.below (bw_drew (bw_refl _))).below J3
        have hS3 : (fun w' : World => w'.cell? ⟨w.heap.size, 1, none⟩ = some (.slice (some ⟨gh, 0, none⟩) hs.length ch) ∧ w'.cell? ⟨gh, k, none⟩ = some (.slice (some ⟨gt, 0, none⟩) nt ct)) w3 := ⟨(J3.cell (p := ⟨w.heap.size, 1, none⟩) zPB).trans t1, (J3.cell (p := ⟨gh, k, none⟩) zGH).trans htc⟩
        obtain ⟨d03, d13, f03, f13⟩ := lies2 Lo3
        have zo3 := Lo3.lt
        have zwr3 := J3.size
        refine ⟨hS3, ?_⟩
        refine wpAnyH_all (rs := [9]) (by kernel_rfl) (by simp) ?_
        intro i hi
        obtain rfl : i = 9 := by simpa using hi
        have B34 : Below w3.heap.size w3 (w3.alloc (.cells #[.slice (some ⟨g3, 0, none⟩) n3 c3] 23)) := (by repeat (first | exact bw_refl _ | assumption | apply bw_drewN | apply bw_drew | apply bw_alloc | refine bw_set ?_ (by simp) _))
        have hS4 : (fun w' : World => w'.cell? ⟨w.heap.size, 1, none⟩ = some (.slice (some ⟨gh, 0, none⟩) hs.length ch) ∧ w'.cell? ⟨gh, k, none⟩ = some (.slice (some ⟨gt, 0, none⟩) nt ct)) (w3.alloc (.cells #[.slice (some ⟨g3, 0, none⟩) n3 c3] 23)) := ⟨(B34.cell (p := ⟨w.heap.size, 1, none⟩) (show w.heap.size < w3.heap.size by omega)).trans hS3.1, (B34.cell (p := ⟨gh, k, none⟩) (show gh < w3.heap.size by omega)).trans hS3.2⟩
        refine wpOp_now rfl (by rfl) ?_
        go_simp
        refine wpAnyH_all (rs := [10]) (by kernel_rfl) (by simp) ?_
        intro i hi
        obtain rfl : i = 10 := by simpa using hi
        refine wpOp_now rfl (by rfl) ?_
        refine wp_append_lies _ _ _ _ (by rfl) w1.heap.size 23 i0 _ 1 24 Tryz.underlying24 hi0 hz0 hz1 hz2 rfl (by omega) _ hs'.length _ (by rfl) (hN3.2.1.alloc _) ⟨w3.heap.size, 0, none⟩ 1 1 [.slice (some ⟨g3, 0, none⟩) n3 c3] (by rfl) (by rfl) (World.news_of_block (cs := #[.slice (some ⟨g3, 0, none⟩) n3 c3]) (t := 23) (fr := (0, 0)) (heap_alloc_new w3 _)) (by simp [Value.oneCell']) (by omega) hmax (by omega) (by simp; omega) (w3.heap.size + 1) (by simp) ?_
        intro gg cg w5 hown5 hgr5 hat5 hlt5
        have Lo5 := lies_grown (Lo3.alloc _) hgr5 (fun e => own_ne_box hN3.2.1 Lo3 e.symm)
        have hS5 : (fun w' : World => w'.cell? ⟨w.heap.size, 1, none⟩ = some (.slice (some ⟨gh, 0, none⟩) hs.length ch) ∧ w'.cell? ⟨gh, k, none⟩ = some (.slice (some ⟨gt, 0, none⟩) nt ct)) w5 := ⟨(World.cell?_of_block (a := ⟨w.heap.size, 1, none⟩) (hgr5.block w.heap.size (by simp; omega) (fun e => own_ne_box hN3.2.1 PB3 e.symm))).trans hS4.1, (World.cell?_of_block (a := ⟨gh, k, none⟩) (hgr5.block gh (by simp; omega) (fun e => by have := (hN3.2.1.lt _ e.symm).1; omega))).trans hS4.2⟩
        refine ⟨hS5, ?_⟩
        simp only [Act.put, List.setIfInBounds_toArray]
        refine wpAnyH_take (i := 11) (v := .pointer (some ⟨w1.heap.size, 1, none⟩)) rfl (by kernel_rfl) (by kernel_rfl) (by kernel_rfl) (fun _ _ _ h => h) (Or.inl ⟨by rfl, by rintro w' ⟨s1, s2⟩; go_simp⟩) hS5 ?_
        refine wpAnyH_all (rs := [12]) (by kernel_rfl) (by simp) ?_
        intro i hi
        obtain rfl : i = 12 := by simpa using hi
        obtain ⟨d05, d15, f05, f15⟩ := lies2 Lo5
        have O5 : Only w1.heap.size w5 (w5.setCell ⟨w1.heap.size, 1, none⟩ (.slice (some ⟨gg, 0, none⟩) (hs'.length + 1) cg)) := (Only.refl (w1.heap.size) w5).set (p := ⟨w1.heap.size, 1, none⟩) (.inl rfl) _
        have hggn : gg ≠ w1.heap.size := fun e => own_ne_box hown5 Lo5 (by rw [← e]; rfl)
        have hS6 : (fun w' : World => w'.cell? ⟨w.heap.size, 1, none⟩ = some (.slice (some ⟨gh, 0, none⟩) hs.length ch) ∧ w'.cell? ⟨gh, k, none⟩ = some (.slice (some ⟨gt, 0, none⟩) nt ct)) (w5.setCell ⟨w1.heap.size, 1, none⟩ (.slice (some ⟨gg, 0, none⟩) (hs'.length + 1) cg)) := ⟨(World.cell?_of_block (a := ⟨w.heap.size, 1, none⟩) (O5.block w.heap.size (by omega) (by have := hgr5.size; simp at this; omega))).trans hS5.1, (World.cell?_of_block (a := ⟨gh, k, none⟩) (O5.block gh (by omega) (by have := hgr5.size; simp at this; omega))).trans hS5.2⟩
        refine wpOp_now rfl (by rfl) ?_
        go_simp
        refine wpAnyH_done (by kernel_rfl) ?_ _
        simp only [Exit.then, Exit.inBlock]
        have keep5 : ∀ t : LoopT, t.in w3 → t.in (w5.setCell ⟨w1.heap.size, 1, none⟩ (.slice (some ⟨gg, 0, none⟩) (hs'.length + 1) cg)) := fun t ht => by
          have h5 := (ht.below B34).grown hgr5 (ht.ne_own hN3.2.1)
          exact h5.only O5 (h5.ne_box Lo5)
        have hr5 := own_only' hown5 O5 (fun e => hggn (Option.some.inj e))
        have hN4 : PlN w1.heap.size (w5.setCell ⟨w1.heap.size, 1, none⟩ (.slice (some ⟨gg, 0, none⟩) (hs'.length + 1) cg)) ⟨g1, n, c1, l.map f⟩ (.slice (some ⟨gg, 0, none⟩) (hs'.length + 1) cg) (hs' ++ [(⟨g3, n3, c3, l3⟩ : LoopT)]) := by
          refine ⟨keep5 _ hN3.1, by simpa [LoopT.v] using hr5, fun t ht => ?_⟩
          rcases List.mem_append.1 ht with h | h
          · exact keep5 t (hN3.2.2 t h)
          · obtain rfl : t = ⟨g3, n3, c3, l3⟩ := by simpa using h
            exact keep5 _ hin3
        have L4 := lies_set1 (z := .slice (some ⟨gg, 0, none⟩) (hs'.length + 1) cg) Lo5
        have J5 := (((bw_trans hnx.drew J3).alloc (by omega) (.cells #[.slice (some ⟨g3, 0, none⟩) n3 c3] 23)).grown hgr5 (by simp; omega) (fun j e => by have := (hN3.2.1.lt j e).1; omega)).setCell (p := ⟨w1.heap.size, 1, none⟩) (Nat.le_refl _) (.slice (some ⟨gg, 0, none⟩) (hs'.length + 1) cg)
        clear hown5 hgr5 hat5 hlt5 keep5 hr5 O5 hN3 Lo3 Lo5 d03 d13 f03 f13 d05 d15 f05 f15 B34 hS3 hS4 hS5 hS6
        generalize w5.setCell ⟨w1.heap.size, 1, none⟩ (.slice (some ⟨gg, 0, none⟩) (hs'.length + 1) cg) = x4 at *
        obtain ⟨d0, d1, f0, f1⟩ := lies2 L4
        go_wp2_with fail
        go_roundw
        case rel =>
          refine ⟨k + 1, _, hs' ++ [(⟨g3, n3, c3, l3⟩ : LoopT)], by omega, by simp, L4, hN4, by simp [Hkl.out], ?_, J5⟩
          rw [List.map_append, hmap, List.take_add_one, ht1]
          simp [← hl3]
        case measure => simp [intOf]; omega
      · skip
        refine wpOp_now rfl (by rfl) ?_
        go_simp
        refine hcall.mono ?_
        rintro e w3 ⟨g3, c3, rfl, hb3, J3⟩
        obtain ⟨n3, l3, hn3, hl3, hin3⟩ : ∃ n3 l3, (lt.map f).length = n3 ∧ lt.map f = l3 ∧ LoopT.in w3 ⟨g3, n3, c3, l3⟩ := ⟨nt, lt.map f, hlt3, rfl, nt3, nt8, hlt3, by rw [hlt3] at hb3; exact hb3⟩
        rw [hn3]
        have PB3 := (show Lies w.heap.size #[.slice (some ⟨g, 0, none⟩) n c, .slice (some ⟨gh, 0, none⟩) hs.length ch] 26 wr.drew from T2).below J3
        have Lo3 := (show Lies w1.heap.size #[.slice (some ⟨g1, 0, none⟩) n c1, hv] 26 wr.drew from Lo).below J3
        have hN3 := (show PlN w1.heap.size wr.drew ⟨g1, n, c1, l.map f⟩ hv hs' from hN.below (bw_drew (bw_refl _))).below J3
        have hS3 : (fun w' : World => w'.cell? ⟨w.heap.size, 1, none⟩ = some (.slice (some ⟨gh, 0, none⟩) hs.length ch) ∧ w'.cell? ⟨gh, k, none⟩ = some (.slice (some ⟨gt, 0, none⟩) nt ct)) w3 := ⟨(J3.cell (p := ⟨w.heap.size, 1, none⟩) zPB).trans t1, (J3.cell (p := ⟨gh, k, none⟩) zGH).trans htc⟩
        obtain ⟨d03, d13, f03, f13⟩ := lies2 Lo3
        have zo3 := Lo3.lt
        have zwr3 := J3.size
        refine ⟨hS3, ?_⟩
        refine wpAnyH_all (rs := [1, 9]) (by kernel_rfl) (by simp) ?_
        intro i hi
        have hi' : i = 1 ∨ i = 9 := by simpa using hi
        clear hi
        rcases hi' with rfl | rfl
        · skip
          refine YieldsIf.wpOp (S := fun w' => w' = w3) (v := hv) rfl (Or.inl ⟨by rfl, by rintro w' rfl; go_simp⟩) rfl ⟨hS3, ?_⟩
          refine wpAnyH_all (rs := [9]) (by kernel_rfl) (by simp) ?_
          intro i hi
          obtain rfl : i = 9 := by simpa using hi
          have B34 : Below w3.heap.size w3 (w3.alloc (.cells #[.slice (some ⟨g3, 0, none⟩) n3 c3] 23)) := (by repeat (first | exact bw_refl _ | assumption | apply bw_drewN | apply bw_drew | apply bw_alloc | refine bw_set ?_ (by simp) _))
          have hS4 : (fun w' : World => w'.cell? ⟨w.heap.size, 1, none⟩ = some (.slice (some ⟨gh, 0, none⟩) hs.length ch) ∧ w'.cell? ⟨gh, k, none⟩ = some (.slice (some ⟨gt, 0, none⟩) nt ct)) (w3.alloc (.cells #[.slice (some ⟨g3, 0, none⟩) n3 c3] 23)) := ⟨(B34.cell (p := ⟨w.heap.size, 1, none⟩) (show w.heap.size < w3.heap.size by omega)).trans hS3.1, (B34.cell (p := ⟨gh, k, none⟩) (show gh < w3.heap.size by omega)).trans hS3.2⟩
          refine wpOp_now rfl (by rfl) ?_
          go_simp
          refine wpAnyH_all (rs := [10]) (by kernel_rfl) (by simp) ?_
          intro i hi
          obtain rfl : i = 10 := by simpa using hi
          refine wpOp_now rfl (by rfl) ?_
          refine wp_append_lies _ _ _ _ (by rfl) w1.heap.size 23 i0 _ 1 24 Tryz.underlying24 hi0 hz0 hz1 hz2 rfl (by omega) _ hs'.length _ (by rfl) (hN3.2.1.alloc _) ⟨w3.heap.size, 0, none⟩ 1 1 [.slice (some ⟨g3, 0, none⟩) n3 c3] (by rfl) (by rfl) (World.news_of_block (cs := #[.slice (some ⟨g3, 0, none⟩) n3 c3]) (t := 23) (fr := (0, 0)) (heap_alloc_new w3 _)) (by simp [Value.oneCell']) (by omega) hmax (by omega) (by simp; omega) (w3.heap.size + 1) (by simp) ?_
          intro gg cg w5 hown5 hgr5 hat5 hlt5
          have Lo5 := lies_grown (Lo3.alloc _) hgr5 (fun e => own_ne_box hN3.2.1 Lo3 e.symm)
          have hS5 : (fun w' : World => w'.cell? ⟨w.heap.size, 1, none⟩ = some (.slice (some ⟨gh, 0, none⟩) hs.length ch) ∧ w'.cell? ⟨gh, k, none⟩ = some (.slice (some ⟨gt, 0, none⟩) nt ct)) w5 := ⟨(World.cell?_of_block (a := ⟨w.heap.size, 1, none⟩) (hgr5.block w.heap.size (by simp; omega) (fun e => own_ne_box hN3.2.1 PB3 e.symm))).trans hS4.1, (World.cell?_of_block (a := ⟨gh, k, none⟩) (hgr5.block gh (by simp; omega) (fun e => by have := (hN3.2.1.lt _ e.symm).1; omega))).trans hS4.2⟩
          refine ⟨hS5, ?_⟩
          simp only [Act.put, List.setIfInBounds_toArray]
          refine wpAnyH_take (i := 11) (v := .pointer (some ⟨w1.heap.size, 1, none⟩)) rfl (by kernel_rfl) (by kernel_rfl) (by kernel_rfl) (fun _ _ _ h => h) (Or.inl ⟨by rfl, by rintro w' ⟨s1, s2⟩; go_simp⟩) hS5 ?_
          refine wpAnyH_all (rs := [12]) (by kernel_rfl) (by simp) ?_
          intro i hi
          obtain rfl : i = 12 := by simpa using hi
          obtain ⟨d05, d15, f05, f15⟩ := lies2 Lo5
          have O5 : Only w1.heap.size w5 (w5.setCell ⟨w1.heap.size, 1, none⟩ (.slice (some ⟨gg, 0, none⟩) (hs'.length + 1) cg)) := (Only.refl (w1.heap.size) w5).set (p := ⟨w1.heap.size, 1, none⟩) (.inl rfl) _
          have hggn : gg ≠ w1.heap.size := fun e => own_ne_box hown5 Lo5 (by rw [← e]; rfl)
          have hS6 : (fun w' : World => w'.cell? ⟨w.heap.size, 1, none⟩ = some (.slice (some ⟨gh, 0, none⟩) hs.length ch) ∧ w'.cell? ⟨gh, k, none⟩ = some (.slice (some ⟨gt, 0, none⟩) nt ct)) (w5.setCell ⟨w1.heap.size, 1, none⟩ (.slice (some ⟨gg, 0, none⟩) (hs'.length + 1) cg)) := ⟨(World.cell?_of_block (a := ⟨w.heap.size, 1, none⟩) (O5.block w.heap.size (by omega) (by have := hgr5.size; simp at this; omega))).trans hS5.1, (World.cell?_of_block (a := ⟨gh, k, none⟩) (O5.block gh (by omega) (by have := hgr5.size; simp at this; omega))).trans hS5.2⟩
          refine wpOp_now rfl (by rfl) ?_
          go_simp
          refine wpAnyH_done (by kernel_rfl) ?_ _
          simp only [Exit.then, Exit.inBlock]
          have keep5 : ∀ t : LoopT, t.in w3 → t.in (w5.setCell ⟨w1.heap.size, 1, none⟩ (.slice (some ⟨gg, 0, none⟩) (hs'.length + 1) cg)) := fun t ht => by
            have h5 := (ht.below B34).grown hgr5 (ht.ne_own hN3.2.1)
            exact h5.only O5 (h5.ne_box Lo5)
          have hr5 := own_only' hown5 O5 (fun e => hggn (Option.some.inj e))
          have hN4 : PlN w1.heap.size (w5.setCell ⟨w1.heap.size, 1, none⟩ (.slice (some ⟨gg, 0, none⟩) (hs'.length + 1) cg)) ⟨g1, n, c1, l.map f⟩ (.slice (some ⟨gg, 0, none⟩) (hs'.length + 1) cg) (hs' ++ [(⟨g3, n3, c3, l3⟩ : LoopT)]) := by
            refine ⟨keep5 _ hN3.1, by simpa [LoopT.v] using hr5, fun t ht => ?_⟩
            rcases List.mem_append.1 ht with h | h
            · exact keep5 t (hN3.2.2 t h)
            · obtain rfl : t = ⟨g3, n3, c3, l3⟩ := by simpa using h
              exact keep5 _ hin3
          have L4 := lies_set1 (z := .slice (some ⟨gg, 0, none⟩) (hs'.length + 1) cg) Lo5
          have J5 := (((bw_trans hnx.drew J3).alloc (by omega) (.cells #[.slice (some ⟨g3, 0, none⟩) n3 c3] 23)).grown hgr5 (by simp; omega) (fun j e => by have := (hN3.2.1.lt j e).1; omega)).setCell (p := ⟨w1.heap.size, 1, none⟩) (Nat.le_refl _) (.slice (some ⟨gg, 0, none⟩) (hs'.length + 1) cg)
          clear hown5 hgr5 hat5 hlt5 keep5 hr5 O5 hN3 Lo3 Lo5 d03 d13 f03 f13 d05 d15 f05 f15 B34 hS3 hS4 hS5 hS6
          generalize w5.setCell ⟨w1.heap.size, 1, none⟩ (.slice (some ⟨gg, 0, none⟩) (hs'.length + 1) cg) = x4 at *
          obtain ⟨d0, d1, f0, f1⟩ := lies2 L4
          go_wp2_with fail
          go_roundw
          case rel =>
            refine ⟨k + 1, _, hs' ++ [(⟨g3, n3, c3, l3⟩ : LoopT)], by omega, by simp, L4, hN4, by simp [Hkl.out], ?_, J5⟩
            rw [List.map_append, hmap, List.take_add_one, ht1]
            simp [← hl3]
          case measure => simp [intOf]; omega
        · skip
          have B34 : Below w3.heap.size w3 (w3.alloc (.cells #[.slice (some ⟨g3, 0, none⟩) n3 c3] 23)) := (by repeat (first | exact bw_refl _ | assumption | apply bw_drewN | apply bw_drew | apply bw_alloc | refine bw_set ?_ (by simp) _))
          have hS4 : (fun w' : World => w'.cell? ⟨w.heap.size, 1, none⟩ = some (.slice (some ⟨gh, 0, none⟩) hs.length ch) ∧ w'.cell? ⟨gh, k, none⟩ = some (.slice (some ⟨gt, 0, none⟩) nt ct)) (w3.alloc (.cells #[.slice (some ⟨g3, 0, none⟩) n3 c3] 23)) := ⟨(B34.cell (p := ⟨w.heap.size, 1, none⟩) (show w.heap.size < w3.heap.size by omega)).trans hS3.1, (B34.cell (p := ⟨gh, k, none⟩) (show gh < w3.heap.size by omega)).trans hS3.2⟩
          refine wpOp_now rfl (by rfl) ?_
          go_simp
          refine wpAnyH_all (rs := [1]) (by kernel_rfl) (by simp) ?_
          intro i hi
          obtain rfl : i = 1 := by simpa using hi
          refine YieldsIf.wpOp (S := fun w' => w' = w3.alloc (.cells #[.slice (some ⟨g3, 0, none⟩) n3 c3] 23)) (v := hv) rfl (Or.inl ⟨by rfl, by rintro w' rfl; go_simp⟩) rfl ⟨hS4, ?_⟩
          refine wpAnyH_all (rs := [10]) (by kernel_rfl) (by simp) ?_
          intro i hi
          obtain rfl : i = 10 := by simpa using hi
          refine wpOp_now rfl (by rfl) ?_
          refine wp_append_lies _ _ _ _ (by rfl) w1.heap.size 23 i0 _ 1 24 Tryz.underlying24 hi0 hz0 hz1 hz2 rfl (by omega) _ hs'.length _ (by rfl) (hN3.2.1.alloc _) ⟨w3.heap.size, 0, none⟩ 1 1 [.slice (some ⟨g3, 0, none⟩) n3 c3] (by rfl) (by rfl) (World.news_of_block (cs := #[.slice (some ⟨g3, 0, none⟩) n3 c3]) (t := 23) (fr := (0, 0)) (heap_alloc_new w3 _)) (by simp [Value.oneCell']) (by omega) hmax (by omega) (by simp; omega) (w3.heap.size + 1) (by simp) ?_
          intro gg cg w5 hown5 hgr5 hat5 hlt5
          have Lo5 := lies_grown (Lo3.alloc _) hgr5 (fun e => own_ne_box hN3.2.1 Lo3 e.symm)
          have hS5 : (fun w' : World => w'.cell? ⟨w.heap.size, 1, none⟩ = some (.slice (some ⟨gh, 0, none⟩) hs.length ch) ∧ w'.cell? ⟨gh, k, none⟩ = some (.slice (some ⟨gt, 0, none⟩) nt ct)) w5 := ⟨(World.cell?_of_block (a := ⟨w.heap.size, 1, none⟩) (hgr5.block w.heap.size (by simp; omega) (fun e => own_ne_box hN3.2.1 PB3 e.symm))).trans hS4.1, (World.cell?_of_block (a := ⟨gh, k, none⟩) (hgr5.block gh (by simp; omega) (fun e => by have := (hN3.2.1.lt _ e.symm).1; omega))).trans hS4.2⟩
          refine ⟨hS5, ?_⟩
          simp only [Act.put, List.setIfInBounds_toArray]
          refine wpAnyH_take (i := 11) (v := .pointer (some ⟨w1.heap.size, 1, none⟩)) rfl (by kernel_rfl) (by kernel_rfl) (by kernel_rfl) (fun _ _ _ h => h) (Or.inl ⟨by rfl, by rintro w' ⟨s1, s2⟩; go_simp⟩) hS5 ?_
          refine wpAnyH_all (rs := [12]) (by kernel_rfl) (by simp) ?_
          intro i hi
          obtain rfl : i = 12 := by simpa using hi
          obtain ⟨d05, d15, f05, f15⟩ := lies2 Lo5
          have O5 : Only w1.heap.size w5 (w5.setCell ⟨w1.heap.size, 1, none⟩ (.slice (some ⟨gg, 0, none⟩) (hs'.length + 1) cg)) := (Only.refl (w1.heap.size) w5).set (p := ⟨w1.heap.size, 1, none⟩) (.inl rfl) _
          have hggn : gg ≠ w1.heap.size := fun e => own_ne_box hown5 Lo5 (by rw [← e]; rfl)
          have hS6 : (fun w' : World => w'.cell? ⟨w.heap.size, 1, none⟩ = some (.slice (some ⟨gh, 0, none⟩) hs.length ch) ∧ w'.cell? ⟨gh, k, none⟩ = some (.slice (some ⟨gt, 0, none⟩) nt ct)) (w5.setCell ⟨w1.heap.size, 1, none⟩ (.slice (some ⟨gg, 0, none⟩) (hs'.length + 1) cg)) := ⟨(World.cell?_of_block (a := ⟨w.heap.size, 1, none⟩) (O5.block w.heap.size (by omega) (by have := hgr5.size; simp at this; omega))).trans hS5.1, (World.cell?_of_block (a := ⟨gh, k, none⟩) (O5.block gh (by omega) (by have := hgr5.size; simp at this; omega))).trans hS5.2⟩
          refine wpOp_now rfl (by rfl) ?_
          go_simp
          refine wpAnyH_done (by kernel_rfl) ?_ _
          simp only [Exit.then, Exit.inBlock]
          have keep5 : ∀ t : LoopT, t.in w3 → t.in (w5.setCell ⟨w1.heap.size, 1, none⟩ (.slice (some ⟨gg, 0, none⟩) (hs'.length + 1) cg)) := fun t ht => by
            have h5 := (ht.below B34).grown hgr5 (ht.ne_own hN3.2.1)
            exact h5.only O5 (h5.ne_box Lo5)
          have hr5 := own_only' hown5 O5 (fun e => hggn (Option.some.inj e))
          have hN4 : PlN w1.heap.size (w5.setCell ⟨w1.heap.size, 1, none⟩ (.slice (some ⟨gg, 0, none⟩) (hs'.length + 1) cg)) ⟨g1, n, c1, l.map f⟩ (.slice (some ⟨gg, 0, none⟩) (hs'.length + 1) cg) (hs' ++ [(⟨g3, n3, c3, l3⟩ : LoopT)]) := by
            refine ⟨keep5 _ hN3.1, by simpa [LoopT.v] using hr5, fun t ht => ?_⟩
            rcases List.mem_append.1 ht with h | h
            · exact keep5 t (hN3.2.2 t h)
            · obtain rfl : t = ⟨g3, n3, c3, l3⟩ := by simpa using h
              exact keep5 _ hin3
          have L4 := lies_set1 (z := .slice (some ⟨gg, 0, none⟩) (hs'.length + 1) cg) Lo5
          have J5 := (((bw_trans hnx.drew J3).alloc (by omega) (.cells #[.slice (some ⟨g3, 0, none⟩) n3 c3] 23)).grown hgr5 (by simp; omega) (fun j e => by have := (hN3.2.1.lt j e).1; omega)).setCell (p := ⟨w1.heap.size, 1, none⟩) (Nat.le_refl _) (.slice (some ⟨gg, 0, none⟩) (hs'.length + 1) cg)
          clear hown5 hgr5 hat5 hlt5 keep5 hr5 O5 hN3 Lo3 Lo5 d03 d13 f03 f13 d05 d15 f05 f15 B34 hS3 hS4 hS5 hS6
          generalize w5.setCell ⟨w1.heap.size, 1, none⟩ (.slice (some ⟨gg, 0, none⟩) (hs'.length + 1) cg) = x4 at *
          obtain ⟨d0, d1, f0, f1⟩ := lies2 L4
          go_wp2_with fail
          go_roundw
          case rel =>
            refine ⟨k + 1, _, hs' ++ [(⟨g3, n3, c3, l3⟩ : LoopT)], by omega, by simp, L4, hN4, by simp [Hkl.out], ?_, J5⟩
            rw [List.map_append, hmap, List.take_add_one, ht1]
            simp [← hl3]
          case measure => simp [intOf]; omega
end Go.Proofs.YthdjeabjllaaaaaGreatDoor
namespace Go.Proofs.YthdjeabjllaaaaaGreatDoor
open Go.RowKit

theorem cmpV_leF {f g : Int × Int} (hf : OkF f) (hg : OkF g) (h : LeF f g) : cmpV f.1 f.2 g.1 g.2 ≤ 0 := by
  unfold cmpV; rw [show okB f.1 f.2 = true from hf, show okB g.1 g.2 = true from hg]; show cmpI _ _ ≤ 0; unfold cmpI
  unfold LeF at h
  split
  · omega
  · rw [if_neg (by omega)]; omega
theorem cmpV_geF {f g : Int × Int} (hf : OkF f) (hg : OkF g) (h : LeF g f) : 0 ≤ cmpV f.1 f.2 g.1 g.2 := by
  unfold cmpV; rw [show okB f.1 f.2 = true from hf, show okB g.1 g.2 = true from hg]; show 0 ≤ cmpI _ _; unfold cmpI
  unfold LeF at h
  rw [if_neg (by omega)]
  split <;> omega
/-- Two fractions, field by field. -/
theorem three' (n m d b : Int) : (n == m) = false ∨ (n = m ∧ (d == b) = false) ∨ (n = m ∧ d = b) := by
  by_cases h : n = m
  · by_cases h2 : d = b
    · exact .inr (.inr ⟨h, h2⟩)
    · exact .inr (.inl ⟨h, by simpa using h2⟩)
  · exact .inl (by simpa using h)
end Go.Proofs.YthdjeabjllaaaaaGreatDoor
namespace Go.Proofs.YthdjeabjllaaaaaGreatDoor
open Go.RowKit Go.Sort

theorem plInV_okk {o : List P2} {hs : List (List P2)} {p : P2} (h : plV o hs = true) (hp : ptB p.1 p.2 = true) : plInV o hs p = plI o hs p := by unfold plInV; rw [h, hp]; rfl

set_option maxRecDepth 100000 in
set_option maxHeartbeats 8000000 in
theorem plateInOver_walk (w : World) (a0 : Option Addr) (len0 cap0 : Nat) (z0 : List Int) (r0 : IsRow .u8 w a0 len0 cap0 z0) (ad : Addr) (hs0 : Sent ad w) :
    Calls Tryz.prog 3 #[.slice a0 len0 cap0] w fun e w' => e = .returned (.bool true) ∧ Below w.heap.size w w' := by
  by_cases hl : 1048576 < len0
  · go_enter Tryz.func3, Tryz.ntmps3
    go_wp2
    go_ret
    exact ⟨rfl, bw_refl _⟩
  have hl0 : len0 ≤ 1048576 := by omega
  clear hl
  go_enter Tryz.func3, Tryz.ntmps3
  go_wp2_with fail
  refine (drawPlateFar_any w _ r0 (bw_refl _)).mono ?_
  rintro e w1 ⟨⟨g, n, c, l⟩, hv, hs, x, y, he, hPB, hD, ⟨hs3, hst⟩, J1⟩
  obtain rfl : e = .returned (.tuple #[.agg #[.slice (some ⟨g, 0, none⟩) n c, hv], .agg #[.int .i64 x, .int .i64 y]]) := he
  obtain ⟨gh, ch, rfl⟩ : ∃ gh ch, hv = .slice (some ⟨gh, 0, none⟩) hs.length ch := own_seat hD.2.2.1 hst
  obtain ⟨W, hW, BW, T, T2⟩ := boxes2 w1 (.cells #[.slice (some ⟨g, 0, none⟩) n c, .slice (some ⟨gh, 0, none⟩) hs.length ch] 26) (.cells #[.int .i64 x, .int .i64 y] 28)
  replace hD := hD.below BW
  have K := bw_trans J1 BW
  go_upto_region 5 with fail
  rw [← hW]
  clear hW BW J1
  have hPl := hD.plt
  obtain ⟨N, hNN⟩ : ∃ N, hs.length = N := ⟨_, rfl⟩
  have HN : Hid (hs.length = N) := hNN
  rw [hNN] at T hPl
  rw [hNN]
  clear hNN
  obtain ⟨t0, t1⟩ := blk_2 T
  obtain ⟨u0, u1⟩ := blk_2 T2
  go_wp2_with fail
  refine (plateFar_any _ _ n c N ch l _ (x, y) ad _ (hs0.below K) hPl).mono ?_
  rintro e w2 ⟨rfl, J⟩
  obtain ⟨f, hf⟩ : ∃ f, plFV l (hs.map LoopT.l) (x, y) = f := ⟨_, rfl⟩
  rw [hf]
  obtain ⟨W2, hW2, B2, F⟩ : ∃ W2, W2 = w2.alloc (.cells #[.int .i64 f.1, .int .i64 f.2] 32) ∧ Below w2.heap.size w2 W2 ∧ W2.heap[w2.heap.size]? = some (.cells #[.int .i64 f.1, .int .i64 f.2] 32 (0, 0)) := ⟨_, rfl, (by repeat (first | exact bw_refl _ | assumption | apply bw_drewN | apply bw_drew | apply bw_alloc | refine bw_set ?_ (by simp) _)), heap_new _ _⟩
  have J2 := bw_trans J B2
  replace K := bw_trans K J2
  replace T := keep J2 T
  replace T2 := keep J2 T2
  replace hD := hD.below J2
  replace hPl := hPl.below J2
  clear J J2 B2 t0 t1 u0 u1
  go_upto_region 6 with fail
  rw [← hW2]
  clear hW2
  obtain ⟨t0, t1⟩ := reg_2 T
  obtain ⟨u0, u1⟩ := reg_2 T2
  obtain ⟨f0, f1⟩ := reg_2 F
  have HY : Hid (∀ V, Below W2.heap.size W2 V → ∀ d os, Calls Tryz.prog 6 #[.agg #[.slice (some ⟨g, 0, none⟩) n c, .slice (some ⟨gh, 0, none⟩) N ch], .agg #[.int .i64 x, .int .i64 y]] (grow (redrawn V d) os) fun e W' => e = .returned (.agg #[.int .i64 f.1, .int .i64 f.2]) ∧ Below (grow (redrawn V d) os).heap.size (grow (redrawn V d) os) W') := fun V hV d os => by
    have := sPlateFar_any (some ⟨g, 0, none⟩) (some ⟨gh, 0, none⟩) n c N ch l _ (x, y) _ ((hPl.below hV).below (below_regrown V d os))
    rwa [hf] at this
  have Y0 : Hid (∀ d os, Calls Tryz.prog 6 #[.agg #[.slice (some ⟨g, 0, none⟩) n c, .slice (some ⟨gh, 0, none⟩) N ch], .agg #[.int .i64 x, .int .i64 y]] (grow (redrawn W2 d) os) fun e W' => e = .returned (.agg #[.int .i64 f.1, .int .i64 f.2]) ∧ Below (grow (redrawn W2 d) os).heap.size (grow (redrawn W2 d) os) W') := HY.out W2 (bw_refl _)
  have hOk := fun d os => sPlateOk_any (some ⟨g, 0, none⟩) (some ⟨gh, 0, none⟩) n c N ch l _ _ (hPl.below (below_regrown W2 d os))
  have hPtk := fun d os => sPt_any x y (grow (redrawn W2 d) os)
  cases hv : plV l (hs.map LoopT.l)
  case false =>
    have G0 : Hid (∀ d os, Calls Tryz.prog 7 #[.agg #[.slice (some ⟨g, 0, none⟩) n c, .slice (some ⟨gh, 0, none⟩) N ch]] (grow (redrawn W2 d) os) fun e W' => e = .returned (.bool false) ∧ Below (grow (redrawn W2 d) os).heap.size (grow (redrawn W2 d) os) W') := fun d os => by have := hOk d os; rwa [hv] at this
    clear hOk hPtk
    refine wp_region_quiet_below (by kernel_rfl) (by kernel_rfl) ?_
    repeat (first | go_big_quiet_step (first | (go_at_call 6; with_reducible exact Calls.regrown_of (Y0.out _ _)) | (go_at_call 7; with_reducible exact Calls.regrown_of (G0.out _ _))))
    refine wpQuiet_nil ?_
    intro _ hw'
    obtain ⟨⟨dq, osq⟩, hw''⟩ := hw'
    subst hw''
    have J := below_regrown W2 dq osq
    generalize grow (redrawn W2 dq) osq = v1 at J ⊢
    replace T := keep J T
    replace T2 := keep J T2
    replace F := keep J F
    replace K := bw_trans K J
    have Y1 := HY.out v1 J
    have Y1' : Hid (∀ d os, Calls Tryz.prog 6 #[.agg #[.slice (some ⟨g, 0, none⟩) n c, .slice (some ⟨gh, 0, none⟩) N ch], .agg #[.int .i64 x, .int .i64 y]] (grow (redrawn v1 d) os) fun e W' => e = .returned (.agg #[.int .i64 f.1, .int .i64 f.2]) ∧ Below (grow (redrawn v1 d) os).heap.size (grow (redrawn v1 d) os) W') := Y1
    clear J t0 t1 u0 u1 f0 f1 Y1 Y0
    obtain ⟨t0, t1⟩ := reg_2 T
    obtain ⟨u0, u1⟩ := reg_2 T2
    obtain ⟨f0, f1⟩ := reg_2 F
    go_upto_region 7 with fail
    refine wp_region_quiet_below (by kernel_rfl) (by kernel_rfl) ?_
    repeat (first | go_big_quiet_step (first | (go_at_call 6; with_reducible exact Calls.regrown_of (Y1'.out _ _))))
    refine wpQuiet_nil ?_
    intro _ hw'
    obtain ⟨⟨dq, osq⟩, hw''⟩ := hw'
    subst hw''
    have J := below_regrown v1 dq osq
    generalize grow (redrawn v1 dq) osq = v2 at J ⊢
    go_wp2_with fail
    go_ret
    exact ⟨rfl, bw_trans K J⟩
  cases hp : ptB x y
  case false =>
    have G0 : Hid (∀ d os, Calls Tryz.prog 7 #[.agg #[.slice (some ⟨g, 0, none⟩) n c, .slice (some ⟨gh, 0, none⟩) N ch]] (grow (redrawn W2 d) os) fun e W' => e = .returned (.bool true) ∧ Below (grow (redrawn W2 d) os).heap.size (grow (redrawn W2 d) os) W') := fun d os => by have := hOk d os; rwa [hv] at this
    have G1 : Hid (∀ d os, Calls Tryz.prog 8 #[.agg #[.int .i64 x, .int .i64 y]] (grow (redrawn W2 d) os) fun e W' => e = .returned (.bool false) ∧ Below (grow (redrawn W2 d) os).heap.size (grow (redrawn W2 d) os) W') := fun d os => by have := hPtk d os; rwa [hp] at this
    clear hOk hPtk
    refine wp_region_quiet_below (by kernel_rfl) (by kernel_rfl) ?_
    repeat (first | go_big_quiet_step (first | (go_at_call 6; with_reducible exact Calls.regrown_of (Y0.out _ _)) | (go_at_call 7; with_reducible exact Calls.regrown_of (G0.out _ _)) | (go_at_call 8; with_reducible exact Calls.regrown_of (G1.out _ _))))
    refine wpQuiet_nil ?_
    intro _ hw'
    obtain ⟨⟨dq, osq⟩, hw''⟩ := hw'
    subst hw''
    have J := below_regrown W2 dq osq
    generalize grow (redrawn W2 dq) osq = v1 at J ⊢
    replace T := keep J T
    replace T2 := keep J T2
    replace F := keep J F
    replace K := bw_trans K J
    have Y1 := HY.out v1 J
    have Y1' : Hid (∀ d os, Calls Tryz.prog 6 #[.agg #[.slice (some ⟨g, 0, none⟩) n c, .slice (some ⟨gh, 0, none⟩) N ch], .agg #[.int .i64 x, .int .i64 y]] (grow (redrawn v1 d) os) fun e W' => e = .returned (.agg #[.int .i64 f.1, .int .i64 f.2]) ∧ Below (grow (redrawn v1 d) os).heap.size (grow (redrawn v1 d) os) W') := Y1
    clear J t0 t1 u0 u1 f0 f1 Y1 Y0
    obtain ⟨t0, t1⟩ := reg_2 T
    obtain ⟨u0, u1⟩ := reg_2 T2
    obtain ⟨f0, f1⟩ := reg_2 F
    go_upto_region 7 with fail
    refine wp_region_quiet_below (by kernel_rfl) (by kernel_rfl) ?_
    repeat (first | go_big_quiet_step (first | (go_at_call 6; with_reducible exact Calls.regrown_of (Y1'.out _ _))))
    refine wpQuiet_nil ?_
    intro _ hw'
    obtain ⟨⟨dq, osq⟩, hw''⟩ := hw'
    subst hw''
    have J := below_regrown v1 dq osq
    generalize grow (redrawn v1 dq) osq = v2 at J ⊢
    go_wp2_with fail
    go_ret
    exact ⟨rfl, bw_trans K J⟩
  have G0 : Hid (∀ d os, Calls Tryz.prog 7 #[.agg #[.slice (some ⟨g, 0, none⟩) n c, .slice (some ⟨gh, 0, none⟩) N ch]] (grow (redrawn W2 d) os) fun e W' => e = .returned (.bool true) ∧ Below (grow (redrawn W2 d) os).heap.size (grow (redrawn W2 d) os) W') := fun d os => by have := hOk d os; rwa [hv] at this
  have G1 : Hid (∀ d os, Calls Tryz.prog 8 #[.agg #[.int .i64 x, .int .i64 y]] (grow (redrawn W2 d) os) fun e W' => e = .returned (.bool true) ∧ Below (grow (redrawn W2 d) os).heap.size (grow (redrawn W2 d) os) W') := fun d os => by have := hPtk d os; rwa [hp] at this
  clear hOk hPtk
  refine wp_region_quiet_below (by kernel_rfl) (by kernel_rfl) ?_
  repeat (first | go_big_quiet_step (first | (go_at_call 6; with_reducible exact Calls.regrown_of (Y0.out _ _)) | (go_at_call 7; with_reducible exact Calls.regrown_of (G0.out _ _)) | (go_at_call 8; with_reducible exact Calls.regrown_of (G1.out _ _))))
  refine wpQuiet_nil ?_
  intro _ hw'
  obtain ⟨⟨dq, osq⟩, hw''⟩ := hw'
  subst hw''
  have J := below_regrown W2 dq osq
  generalize grow (redrawn W2 dq) osq = v1 at J ⊢
  replace T := keep J T
  replace T2 := keep J T2
  replace F := keep J F
  replace K := bw_trans K J
  replace hD := hD.below J
  replace hPl := hPl.below J
  clear J t0 t1 u0 u1 f0 f1 G0 G1 HY Y0
  have hfI : plFI l (hs.map LoopT.l) (x, y) = f := by rw [← hf]; exact (plFV_ok hv hp).symm
  obtain ⟨uin, huin⟩ : ∃ u, plI l (hs.map LoopT.l) (x, y) = u := ⟨_, rfl⟩
  have hPI : ∀ V, Below v1.heap.size v1 V → Calls Tryz.prog 11 #[.agg #[.slice (some ⟨g, 0, none⟩) n c, .slice (some ⟨gh, 0, none⟩) N ch], .agg #[.int .i64 x, .int .i64 y]] V fun e W' => e = .returned (.int .i64 uin) ∧ Below V.heap.size V W' := fun V hV => by
    have := plateIn_any _ _ n c N ch l (hs.map LoopT.l) (x, y) V (hPl.below hV)
    rwa [plInV_okk hv hp, huin] at this
  have hL := (plV_iff _ _).1 hv
  have hpxy := (ptB_iff x y).1 hp
  have hokO : Hid (okV l = true) := hL.out
  have hokH : Hid (∀ t ∈ hs, okV t.l = true) := fun t ht => hL.ok _ (List.mem_map.2 ⟨t, ht, rfl⟩)
  have hFm : Hid (∀ t, t = (⟨g, n, c, l⟩ : LoopT) ∨ t ∈ hs → ∀ i, i < t.n → ∀ w, Calls Tryz.prog 10 #[.agg #[.int .i64 (ptAt t.l i).1, .int .i64 (ptAt t.l i).2], .bool false] w fun e w' => e = .returned (.agg #[.int .i64 (mirP (ptAt t.l i)).1, .int .i64 (mirP (ptAt t.l i)).2]) ∧ Below w.heap.size w w') := by
    have hnl : ∀ t ∈ hs, t.l.length = t.n := fun t ht => (hD.2.2.2 t ht).2.2.1
    have hno : l.length = n := hD.1.2.2.1
    intro t ht i hi w
    refine luPlace_f (ptAt t.l i) ?_ w
    rcases ht with rfl | ht
    · exact okV_pt hokO.out (by show i < l.length; rw [hno]; exact hi)
    · exact okV_pt (hokH.out t ht) (by rw [hnl t ht]; exact hi)
  have hFs : Hid (∀ t, t = (⟨g, n, c, l⟩ : LoopT) ∨ t ∈ hs → ∀ i, i < t.n → ∀ w, Calls Tryz.prog 10 #[.agg #[.int .i64 (ptAt t.l i).1, .int .i64 (ptAt t.l i).2], .bool true] w fun e w' => e = .returned (.agg #[.int .i64 (swpP (ptAt t.l i)).1, .int .i64 (swpP (ptAt t.l i)).2]) ∧ Below w.heap.size w w') := fun t _ i _ w => luPlace_t (ptAt t.l i) w
  have L1 : ∀ V, Below v1.heap.size v1 V → Calls Tryz.prog 9 #[.agg #[.slice (some ⟨g, 0, none⟩) n c, .slice (some ⟨gh, 0, none⟩) N ch], .bool false] V _ := fun V hV => by
    have := luPlate_ok mirP false _ ⟨g, n, c, l⟩ gh ch hs V (hD.below hV) hFm.out
    rw [HN.out] at this; exact this
  have L2 : ∀ V, Below v1.heap.size v1 V → Calls Tryz.prog 9 #[.agg #[.slice (some ⟨g, 0, none⟩) n c, .slice (some ⟨gh, 0, none⟩) N ch], .bool true] V _ := fun V hV => by
    have := luPlate_ok swpP true _ ⟨g, n, c, l⟩ gh ch hs V (hD.below hV) hFs.out
    rw [HN.out] at this; exact this
  have P1 : Hid (∀ w, Calls Tryz.prog 10 #[.agg #[.int .i64 x, .int .i64 y], .bool false] w fun e w' => e = .returned (.agg #[.int .i64 (9-x), .int .i64 y]) ∧ Below w.heap.size w w') := fun w => luPlace_f (x, y) hp w
  have P2' : Hid (∀ w, Calls Tryz.prog 10 #[.agg #[.int .i64 x, .int .i64 y], .bool true] w fun e w' => e = .returned (.agg #[.int .i64 y, .int .i64 x]) ∧ Below w.heap.size w w') := fun w => luPlace_t (x, y) w
  have hp1 : ptB (9 - x) y = true := by rw [ptB_iff]; omega
  have hp2 : ptB y x = true := by rw [ptB_iff]; omega
  have hv1 : plV (l.map mirP) ((hs.map LoopT.l).map (List.map mirP)) = true := plV_turn turns_mir hv
  have hv2 : plV (l.map swpP) ((hs.map LoopT.l).map (List.map swpP)) = true := plV_turn turns_swp hv
  have F1 : plFV (l.map mirP) ((hs.map LoopT.l).map (List.map mirP)) (9 - x, y) = f := by rw [plFV_ok hv1 hp1, ← hfI]; exact plFI_mir hv (p := (x, y)) hp
  have F2 : plFV (l.map swpP) ((hs.map LoopT.l).map (List.map swpP)) (y, x) = f := by rw [plFV_ok hv2 hp2, ← hfI]; exact plFI_swp hv (p := (x, y)) hp
  have I1 : plInV (l.map mirP) ((hs.map LoopT.l).map (List.map mirP)) (9 - x, y) = uin := by rw [plInV_okk hv1 hp1, ← huin]; exact plI_map (f := mirP) (fun l p => inI_mir l p) _ _ (x, y)
  have I2 : plInV (l.map swpP) ((hs.map LoopT.l).map (List.map swpP)) (y, x) = uin := by rw [plInV_okk hv2 hp2, ← huin]; exact plI_map (f := swpP) (fun l p => inI_swp l p) _ _ (x, y)
  -- a plate on the other side, asked
  have Q1 : Hid (∀ V g' n' c' ah nh' ch' (l' : List P2) (hs' : List LoopT), Sent ad V → l' = l.map mirP → hs'.map LoopT.l = hs.map (fun t => t.l.map mirP) → Plt V (some ⟨g', 0, none⟩) n' ah nh' l' (hs'.map LoopT.l) →
      Calls Tryz.prog 5 #[.agg #[.slice (some ⟨g', 0, none⟩) n' c', .slice ah nh' ch'], .agg #[.int .i64 (9-x), .int .i64 y]] V (fun e W' => e = .returned (.agg #[.int .i64 f.1, .int .i64 f.2]) ∧ Below V.heap.size V W') ∧ Calls Tryz.prog 11 #[.agg #[.slice (some ⟨g', 0, none⟩) n' c', .slice ah nh' ch'], .agg #[.int .i64 (9-x), .int .i64 y]] V (fun e W' => e = .returned (.int .i64 uin) ∧ Below V.heap.size V W')) := fun V g' n' c' ah nh' ch' l' hs' hV e1 e2 hP => by
    have e3 : hs'.map LoopT.l = (hs.map LoopT.l).map (List.map mirP) := by rw [e2, List.map_map]; rfl
    rw [e3] at hP
    subst e1
    have a1 := plateFar_any _ _ n' c' nh' ch' _ _ (9 - x, y) ad V hV hP
    have a2 := plateIn_any _ _ n' c' nh' ch' _ _ (9 - x, y) V hP
    rw [F1] at a1
    rw [I1] at a2
    exact ⟨a1, a2⟩
  have Q2 : Hid (∀ V g' n' c' ah nh' ch' (l' : List P2) (hs' : List LoopT), Sent ad V → l' = l.map swpP → hs'.map LoopT.l = hs.map (fun t => t.l.map swpP) → Plt V (some ⟨g', 0, none⟩) n' ah nh' l' (hs'.map LoopT.l) →
      Calls Tryz.prog 5 #[.agg #[.slice (some ⟨g', 0, none⟩) n' c', .slice ah nh' ch'], .agg #[.int .i64 y, .int .i64 x]] V (fun e W' => e = .returned (.agg #[.int .i64 f.1, .int .i64 f.2]) ∧ Below V.heap.size V W') ∧ Calls Tryz.prog 11 #[.agg #[.slice (some ⟨g', 0, none⟩) n' c', .slice ah nh' ch'], .agg #[.int .i64 y, .int .i64 x]] V (fun e W' => e = .returned (.int .i64 uin) ∧ Below V.heap.size V W')) := fun V g' n' c' ah nh' ch' l' hs' hV e1 e2 hP => by
    have e3 : hs'.map LoopT.l = (hs.map LoopT.l).map (List.map swpP) := by rw [e2, List.map_map]; rfl
    rw [e3] at hP
    subst e1
    have a1 := plateFar_any _ _ n' c' nh' ch' _ _ (y, x) ad V hV hP
    have a2 := plateIn_any _ _ n' c' nh' ch' _ _ (y, x) V hP
    rw [F2] at a1
    rw [I2] at a2
    exact ⟨a1, a2⟩
  have hne : (uin != uin) = false := by simp
  clear hv1 hv2 F1 F2 I1 I2 hp1 hp2 hL hokO hokH hFm hFs hfI huin hst hs3 hPB hpxy hPl
  go_upto_region 8 with fail
  obtain ⟨V, hV, BV, LB⟩ : ∃ V, V = v1.alloc (.cells #[.bool false, .bool true] 4) ∧ Below v1.heap.size v1 V ∧ V.heap[v1.heap.size]? = some (.cells #[.bool false, .bool true] 4 (0, 0)) := ⟨_, rfl, (by repeat (first | exact bw_refl _ | assumption | apply bw_drewN | apply bw_drew | apply bw_alloc | refine bw_set ?_ (by simp) _)), heap_new _ _⟩
  rw [← hV]
  clear hV
  refine wp_loop_rounds 3 ?_
  rw [rounds_succ]
  have KT := keep BV T
  obtain ⟨t0, t1⟩ := blk_2 KT
  obtain ⟨b0, b1⟩ := blk_2 LB
  go_wp2_with fail
  refine (L1 _ BV).mono ?_
  rintro e y1 ⟨⟨g', n', c', l'⟩, hv', hs', he', hN', ho', hh', J⟩
  obtain rfl : e = .returned (.agg #[.slice (some ⟨g', 0, none⟩) n' c', hv']) := he'
  obtain ⟨ah, ch', rfl, hPq⟩ := hN'.plt
  obtain ⟨nh', hnh'⟩ : ∃ k, hs'.length = k := ⟨_, rfl⟩
  rw [hnh'] at hPq
  rw [hnh']
  obtain ⟨Y, hY, BY, QB⟩ : ∃ Y, Y = y1.alloc (.cells #[.slice (some ⟨g', 0, none⟩) n' c', .slice ah nh' ch'] 26) ∧ Below y1.heap.size y1 Y ∧ Y.heap[y1.heap.size]? = some (.cells #[.slice (some ⟨g', 0, none⟩) n' c', .slice ah nh' ch'] 26 (0, 0)) := ⟨_, rfl, (by repeat (first | exact bw_refl _ | assumption | apply bw_drewN | apply bw_drew | apply bw_alloc | refine bw_set ?_ (by simp) _)), heap_new _ _⟩
  have B2 := bw_trans BV (bw_trans J BY)
  have LB2 := keep (bw_trans J BY) LB
  replace hPq := hPq.below BY
  clear hN' J BY t0 t1 b0 b1 hnh' KT
  go_upto_region 10 with fail
  rw [← hY]
  clear hY
  obtain ⟨t0, t1⟩ := reg_2 (keep B2 T)
  obtain ⟨u0, u1⟩ := reg_2 (keep B2 T2)
  obtain ⟨f0, f1⟩ := reg_2 (keep B2 F)
  obtain ⟨q0, q1⟩ := reg_2 QB
  have hsY := hs0.below (bw_trans K B2)
  have QQ : Hid (∀ d os, _ ∧ _) := fun d os => Q1.out (grow (redrawn Y d) os) g' n' c' ah nh' ch' l' hs' (hsY.below (below_regrown Y d os)) ho' hh' (hPq.below (below_regrown Y d os))
  have HPI : Hid (∀ d os, _) := fun d os => hPI (grow (redrawn Y d) os) (bw_trans B2 (below_regrown Y d os))
  refine wp_region_quiet_below (by kernel_rfl) (by kernel_rfl) ?_
  repeat (first | go_big_quiet_step (first | (go_at_call 10; with_reducible exact Calls.regrown_of (P1.out _)) | (go_at_call 5; with_reducible exact Calls.regrown_of ((QQ.out _ _).1)) | (go_at_call 11; with_reducible exact Calls.regrown_of ((QQ.out _ _).2)) | (go_at_call 11; with_reducible exact Calls.regrown_of (HPI.out _ _))))
  refine wpQuiet_nil ?_
  intro _ hw'
  obtain ⟨⟨dq, osq⟩, hw''⟩ := hw'
  subst hw''
  have J := below_regrown Y dq osq
  generalize grow (redrawn Y dq) osq = V2 at J ⊢
  have BV2 := bw_trans B2 J
  have LBV2 := keep J LB2
  clear QQ HPI B2 LB2 J t0 t1 u0 u1 f0 f1 q0 q1 hsY QB hPq ho' hh'
  go_wp2_with fail
  rw [rounds_succ]
  have KT := keep BV2 T
  obtain ⟨t0, t1⟩ := blk_2 KT
  obtain ⟨b0, b1⟩ := blk_2 LBV2
  go_wp2_with fail
  refine (L2 _ BV2).mono ?_
  rintro e y1 ⟨⟨g', n', c', l'⟩, hv', hs', he', hN', ho', hh', J⟩
  obtain rfl : e = .returned (.agg #[.slice (some ⟨g', 0, none⟩) n' c', hv']) := he'
  obtain ⟨ah, ch', rfl, hPq⟩ := hN'.plt
  obtain ⟨nh', hnh'⟩ : ∃ k, hs'.length = k := ⟨_, rfl⟩
  rw [hnh'] at hPq
  rw [hnh']
  obtain ⟨Y, hY, BY, QB⟩ : ∃ Y, Y = y1.alloc (.cells #[.slice (some ⟨g', 0, none⟩) n' c', .slice ah nh' ch'] 26) ∧ Below y1.heap.size y1 Y ∧ Y.heap[y1.heap.size]? = some (.cells #[.slice (some ⟨g', 0, none⟩) n' c', .slice ah nh' ch'] 26 (0, 0)) := ⟨_, rfl, (by repeat (first | exact bw_refl _ | assumption | apply bw_drewN | apply bw_drew | apply bw_alloc | refine bw_set ?_ (by simp) _)), heap_new _ _⟩
  have B2 := bw_trans BV2 (bw_trans J BY)
  have LB2 := keep (bw_trans J BY) LBV2
  replace hPq := hPq.below BY
  clear hN' J BY t0 t1 b0 b1 hnh' KT
  go_upto_region 10 with fail
  rw [← hY]
  clear hY
  obtain ⟨t0, t1⟩ := reg_2 (keep B2 T)
  obtain ⟨u0, u1⟩ := reg_2 (keep B2 T2)
  obtain ⟨f0, f1⟩ := reg_2 (keep B2 F)
  obtain ⟨q0, q1⟩ := reg_2 QB
  have hsY := hs0.below (bw_trans K B2)
  have QQ : Hid (∀ d os, _ ∧ _) := fun d os => Q2.out (grow (redrawn Y d) os) g' n' c' ah nh' ch' l' hs' (hsY.below (below_regrown Y d os)) ho' hh' (hPq.below (below_regrown Y d os))
  have HPI : Hid (∀ d os, _) := fun d os => hPI (grow (redrawn Y d) os) (bw_trans B2 (below_regrown Y d os))
  refine wp_region_quiet_below (by kernel_rfl) (by kernel_rfl) ?_
  repeat (first | go_big_quiet_step (first | (go_at_call 10; with_reducible exact Calls.regrown_of (P2'.out _)) | (go_at_call 5; with_reducible exact Calls.regrown_of ((QQ.out _ _).1)) | (go_at_call 11; with_reducible exact Calls.regrown_of ((QQ.out _ _).2)) | (go_at_call 11; with_reducible exact Calls.regrown_of (HPI.out _ _))))
  refine wpQuiet_nil ?_
  intro _ hw'
  obtain ⟨⟨dq, osq⟩, hw''⟩ := hw'
  subst hw''
  have J := below_regrown Y dq osq
  generalize grow (redrawn Y dq) osq = V3 at J ⊢
  have BV3 := bw_trans B2 J
  have LBV3 := keep J LB2
  clear QQ HPI B2 LB2 J t0 t1 u0 u1 f0 f1 q0 q1 hsY QB hPq ho' hh'
  go_wp2_with fail
  rw [rounds_succ]
  go_wp2_with fail
  go_ret
  exact ⟨rfl, bw_trans K BV3⟩
end Go.Proofs.YthdjeabjllaaaaaGreatDoor
namespace Go.Proofs.YthdjeabjllaaaaaGreatDoor
open Go.ChangeShapes Go.WideShapes Go.ChangeAt Go.RowKit

theorem own : ownKnob Tryz.prog.godebug = none := by kernel_rfl
theorem laidOut : laidOutB Tryz.prog = true := by kernel_rfl
theorem gE : Tryz.prog.globalNamed "loop.example/mortiser/impl.errNoFrac" = some 0 := by kernel_rfl
theorem gEType : (Tryz.prog.globals[0]?).map (·.type) = some 104 := by kernel_rfl
theorem cellsES : Tryz.prog.cellsOf 160 = 1 := by kernel_rfl
theorem cellsStr : Tryz.prog.cellsOf 9 = 1 := by kernel_rfl
theorem star : "*" ++ "errors.errorString" = "*errors.errorString" := by decide
theorem rowES (u : TypeId) (h : Tryz.prog.typeName? 3 u = some "*errors.errorString") : u = 135 :=
  typeName_ptr_named (nm := "errors.errorString") (by rw [star]; kernel_rfl) (by kernel_rfl) (by decide) u (by rw [star]; exact h)

/-- What the list gives: the variable holds a pointer to an error of errors.New's make. -/
theorem sent_of_met {W : World} (h : laidMet Tryz.prog [("loop.example/mortiser/impl.errNoFrac", Rows.laid_loop_example_mortiser_impl_errNoFrac)] W) :
    ∃ a, W.var? Tryz.prog "loop.example/mortiser/impl.errNoFrac" = some #[.iface 135 (.pointer (some a))] ∧ Sent a W := by
  obtain ⟨a, s, hv, _, _, _⟩ := laid_sentinel h gE gEType Tryz.underlying104 rowES Tryz.underlying135 Tryz.underlying160 rfl rfl Tryz.underlying9 cellsES cellsStr
  exact ⟨a, hv, by simpa [Sent] using World.var?_cell gE hv 0⟩
theorem sent_of_laid {W : World} (h : laidMetH Tryz.prog [("loop.example/mortiser/impl.errNoFrac", Rows.laid_loop_example_mortiser_impl_errNoFrac)] W) :
    ∃ a, W.var? Tryz.prog "loop.example/mortiser/impl.errNoFrac" = some #[.iface 135 (.pointer (some a))] ∧ Sent a W := by
  rw [MakeChecks.laidMetH_plain _ _ _ (by kernel_rfl)] at h
  exact sent_of_met h

/-- The variable read again as a token. -/
theorem vars_again {H : Type} (enc : TypeId × Value → H) {X : World} {a : Addr} (hv : X.var? Tryz.prog "loop.example/mortiser/impl.errNoFrac" = some #[.iface 135 (.pointer (some a))]) (sp : Nat → Bool) :
    DataW.TrodVars enc Tryz.prog X sp ["loop.example/mortiser/impl.errNoFrac"] [tok enc (.iface 135 (.pointer (some a)))] [.cell 0 0] :=
  vars_read1 enc gE gEType Tryz.underlying104 hv trivial sp

/-- The door's own heap meets the condition. -/
theorem door_met (os : Os) (args : Array Value) : laidMetH Tryz.prog [("loop.example/mortiser/impl.errNoFrac", Rows.laid_loop_example_mortiser_impl_errNoFrac)] ((World.doorLaid Tryz.prog 28 os).forCall (fun _ _ => 0) ⟨#[], args, []⟩).memory :=
  laidMetH_of_parts3 (fuel := 8) (laidMet_of_run' 8 (by kernel_rfl) (by kernel_rfl)) (by kernel_rfl) (by kernel_rfl)
end Go.Proofs.YthdjeabjllaaaaaGreatDoor
namespace Go.Proofs.YthdjeabjllaaaaaGreatDoor
open Go.ChangeShapes Go.WideShapes Go.ChangeAt Go.RowKit Go.Joins
open Go.ChangeMaps (open_string shut_string)

set_option maxRecDepth 100000 in
theorem fnPlateInOver_lifted (os : Os) (started : os.Started) (H : Type) (enc : TypeId × Value → H) :
    ReturnsInHanded {} Tryz.checked os 3 .any (fun w args => (Rows.fnPlateInOverSpec.pre enc Tryz.prog Tryz.f3 [] false w args ∧ laidMetH Tryz.prog Rows.fnPlateInOverRow.laid w) ∧ sizedMet enc Tryz.prog Tryz.f3 (OpenSpec.ofChange Rows.fnPlateInOverSpec) false w args)
      (Rows.fnPlateInOverSpec.post enc Tryz.prog Tryz.f3 false true false false) := by
  refine returnsInHanded_of_change_and (C := Tryz.checked) (X := fun w _ => laidMetH Tryz.prog Rows.fnPlateInOverRow.laid w) (fun _ _ _ hh h => h.of_heap hh) own started (by kernel_rfl) Tryz.func3
    (ChangeSpec.witness_shaped (enc := enc) (C := Tryz.checked) (os := os) (X := fun w _ => laidMetH Tryz.prog Rows.fnPlateInOverRow.laid w) false (World.doorLaid Tryz.prog 28 os) #[.slice none 0 0] 8 rfl (World.shaped_of_RefB (by kernel_rfl) (by kernel_rfl)) (by kernel_rfl) (by kernel_rfl) (by kernel_rfl) (door_met os _)) ?_
  intro W base args ds gs before hval0 hW _ _ hL _
  have hval : ∀ (j : Nat) t v, Tryz.f3.params[j]? = some t → args[j]? = some v → Value.okWide Tryz.prog W .any base t v := hval0
  have hW' := hW
  obtain ⟨p, q, hA0, hV, rfl, hfz, hnd⟩ := hW
  have hA : DataW.TrodAll enc Tryz.prog W 0 (fun _ => true) true Tryz.f3.params.toList args.toList ds p := hA0
  rw [Tryz.params3] at hA hval
  obtain ⟨v0, vs0, d0, ds0, p0, q0, hargs, rfl, rfl, h0, r0⟩ := trodAll_cons hA
  obtain ⟨rfl, rfl, rfl⟩ := trodAll_nil r0
  obtain rfl : args = #[v0] := by cases args; simp_all
  obtain ⟨a, hvar, hs⟩ := sent_of_laid hL
  obtain ⟨rfl, rfl⟩ := hV.unique (vars_again enc hvar _)
  have k0 := h0
  have lt0 : ∀ x ∈ p0, x.block < W.heap.size := by obtain ⟨m, hm⟩ := k0; exact DataW.trod_lt m _ _ _ hm
  obtain ⟨a0, len0, cap0, rfl⟩ := okWide_slice Tryz.underlying22 (hval 0 22 v0 rfl rfl)
  obtain ⟨z0, w0⟩ : ∃ zs, IsRow .u8 W a0 len0 cap0 zs := by
    obtain ⟨fuel, hf⟩ := h0
    rcases open_ints Tryz.underlying22 Tryz.underlying5 (by kernel_rfl) hf with ⟨hcs, _⟩ | ⟨x, l, c, zs, hcs, _, hl, hm, hz, _, hcell, hwz⟩
    · simp [Value.cells] at hcs
      obtain ⟨rfl, rfl, rfl⟩ := hcs
      exact ⟨[], .inl ⟨rfl, rfl, rfl, rfl⟩⟩
    · simp [Value.cells] at hcs
      obtain ⟨rfl, rfl, rfl⟩ := hcs
      exact ⟨zs, .inr ⟨_, rfl, hl, hm, by simpa using hz, hcell, hwz⟩⟩
  clear hA0 hval0
  refine (plateInOver_walk W a0 len0 cap0 z0 w0 a hs).mono fun e W' ⟨he, bel⟩ => ?_
  subst he
  exact ⟨_, rfl, _, _, _, [], _, [.cell 0 0], hW', trodAll_mk1 (shut_bool Tryz.underlying4 _), (trodAll_cons_mk (Below.trod laidOut (by kernel_rfl) (of_decide_eq_true (by kernel_rfl)) k0 bel lt0) trodAll_mk0), vars_again enc (var?_below bel gE hs.lt hvar) _, bel.frame _, fun h => by cases h⟩

theorem fnPlateInOver_said : Rows.FnPlateInOverSaid :=
  OpenClaim.holds_of_wide 3 Tryz.f3 rfl rfl rfl rfl rfl rfl rfl ⟨rfl, rfl, rfl, rfl, rfl⟩ rfl rfl rfl rfl rfl (by kernel_rfl) Tryz.func3 (by kernel_rfl)
    (of_decide_eq_true (by kernel_rfl)) (by unfold Func.isWrapper; first | (rw [if_pos (by decide +kernel)]; kernel_rfl) | (rw [if_neg (by decide +kernel)]; exact ⟨rfl, rfl⟩))
    (fun os started H enc _ => fnPlateInOver_lifted os started H enc)

theorem fnPlateInOver_plain (f : FuncId) (fn : Func) (hf : Tryz.pinned.checked.prog.funcNamed "loop.example/mortiser/laws.FnPlateInOver" = some f) (hfn : Tryz.pinned.checked.prog.funcs[f]? = some fn) :
    true = Tryz.pinned.checked.prog.looks [] ∧ ∀ (j : Nat) t, fn.params[j]? = some t → Tryz.pinned.checked.prog.wantsStandIn t = false := by
  obtain rfl : f = 3 := Option.some.inj ((show Tryz.prog.funcNamed "loop.example/mortiser/laws.FnPlateInOver" = some 3 by kernel_rfl).symm.trans hf) |>.symm
  obtain rfl : fn = Tryz.f3 := (Option.some.inj (Tryz.func3.symm.trans hfn)).symm
  refine ⟨by kernel_rfl, fun j t ht => ?_⟩
  rw [Tryz.params3] at ht
  have hm := Array.mem_of_getElem? ht
  simp only [List.mem_toArray, List.mem_cons, List.not_mem_nil, or_false] at hm
  subst hm
  exact (show Tryz.prog.wantsStandIn 22 = false by kernel_rfl)

/-- THE STATEMENT. -/
theorem fnPlateInOver_card : Rows.FnPlateInOverCardSaid :=
  Claim7.holds_tied_plain_at .later [] _ _ _ _ fnPlateInOver_said (fun _ h => by cases h) (by kernel_rfl) (fun _ h => by cases h) fnPlateInOver_row_tie rfl ⟨rfl, rfl⟩ (by kernel_rfl) rfl fnPlateInOver_plain (by kernel_rfl)
end Go.Proofs.YthdjeabjllaaaaaGreatDoor
