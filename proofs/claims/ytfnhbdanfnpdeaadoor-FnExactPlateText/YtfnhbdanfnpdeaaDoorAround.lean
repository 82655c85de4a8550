/-
  OUR OWN TEXT. A ring around another one, or beside it, by contract.
-/
import Derived.Test.YtfnhbdanfnpdeaaDoorMeets
import Derived.Test.YtfnhbdanfnpdeaaDoorRings
namespace Go.Proofs.YtfnhbdanfnpdeaaDoor
open Go.RowKit Go.Sort

/-- The first point of a ring. -/
theorem pts_first {n₀ : Nat} {W : World} {a : Option Addr} {len : Nat} {l : List P2} (h : Pts n₀ W a len l) (h0 : 0 < len) : ∃ b off, a = some ⟨b, off, none⟩ ∧ b < n₀ ∧ W.cell? ⟨b, off, none⟩ = some (.int .i64 (ptAt l 0).1) ∧ W.cell? ⟨b, off + 1, none⟩ = some (.int .i64 (ptAt l 0).2) := by
  rcases h.2 with h | ⟨b, off, e, hb, hc⟩
  · omega
  · have := hc 0 h0
    rw [Nat.zero_mul, Nat.add_zero] at this
    exact ⟨b, off, e, hb, this⟩
theorem okV_first {l : List P2} (h : okV l = true) : ptB (ptAt l 0).1 (ptAt l 0).2 = true := by
  have := okV_pos h
  exact (sgP_pt (((okV_iff l).1 h).seg 0 (by omega))).1
set_option maxRecDepth 100000 in
set_option maxHeartbeats 4000000 in
theorem around_any (B1 B2 : Nat) (a1 a2 : Option Addr) (len1 cap1 len2 cap2 : Nat) (l1 l2 : List P2) (hl1 : len1 ≤ 1048576) (hl2 : len2 ≤ 1048576) (ok1 : okV l1 = true) (ok2 : okV l2 = true) (w : World)
    (c1 : w.cell? ⟨B1, 0, none⟩ = some (.slice a1 len1 cap1)) (c2 : w.cell? ⟨B2, 0, none⟩ = some (.slice a2 len2 cap2)) (hP1 : Pts w.heap.size w a1 len1 l1) (hP2 : Pts w.heap.size w a2 len2 l2) :
    Calls Tryd.prog 92 #[.pointer (some ⟨B1, 0, none⟩), .pointer (some ⟨B2, 0, none⟩)] w fun e W' => e = .returned (.bool (arB l1 l2)) ∧ Below w.heap.size w W' := by
  have z1 : B1 < w.heap.size := World.block_lt_of_cell? _ _ c1
  have z2 : B2 < w.heap.size := World.block_lt_of_cell? _ _ c2
  have hlen1 : 3 ≤ len1 := by have := okV_pos ok1; have := hP1.1; omega
  have hlen2 : 3 ≤ len2 := by have := okV_pos ok2; have := hP2.1; omega
  have HM : Hid (∀ d os, Calls Tryd.prog 109 #[.pointer (some ⟨B1, 0, none⟩), .pointer (some ⟨B2, 0, none⟩)] (grow (redrawn w d) os) fun e W' => e = .returned (.bool (!apL l1 l2)) ∧ Below (grow (redrawn w d) os).heap.size (grow (redrawn w d) os) W') := fun d os =>
    meets_any B1 B2 a1 a2 len1 cap1 len2 cap2 l1 l2 hl1 hl2 ok1 ok2 _ (cell_regrown c1 d os) (cell_regrown c2 d os) ((hP1.below (below_regrown w d os)).grow (below_regrown w d os).size) ((hP2.below (below_regrown w d os)).grow (below_regrown w d os).size)
  have HW : Hid (∀ d os, Calls Tryd.prog 52 #[.slice a1 len1 cap1, .agg #[.int .i64 (ptAt l2 0).1, .int .i64 (ptAt l2 0).2]] (grow (redrawn w d) os) fun e W' => e = .returned (.int .i64 (inI l1 (ptAt l2 0))) ∧ Below (grow (redrawn w d) os).heap.size (grow (redrawn w d) os) W') := fun d os =>
    where_any a1 len1 cap1 l1 (ptAt l2 0) hl1 ok1 (okV_first ok2) _ ((hP1.below (below_regrown w d os)).grow (below_regrown w d os).size)
  have p1 : (0 : Int) < (len2 : Int) := by omega
  cases hap : apL l1 l2
  · rw [hap] at HM
    have e1 : Hid (arB l1 l2 = false) := by change _ = _; unfold arB; rw [hap]; rfl
    clear hap
    go_enter Tryd.func92, Tryd.ntmps92
    go_wp2_with fail
    refine wp_region_quiet_below (by kernel_rfl) (by kernel_rfl) ?_
    repeat (first | go_big_quiet_step (first | (go_at_call 109; with_reducible exact Calls.regrown_of (HM.out _ _))))
    refine wpQuiet_nil ?_
    intro _ hw'
    obtain ⟨⟨dq, osq⟩, hw''⟩ := hw'
    subst hw''
    have J := below_regrown w dq osq
    generalize grow (redrawn w dq) osq = v at J ⊢
    go_wp2_with fail
    go_ret
    exact ⟨ret_bool e1.out.symm, J⟩
  · rw [hap] at HM
    have e1 : Hid (arB l1 l2 = (inI l1 (ptAt l2 0) == 1)) := by change _ = _; unfold arB; rw [hap, Bool.true_and, Bool.eq_iff_iff, decide_eq_true_eq, beq_iff_eq]
    clear hap
    obtain ⟨b, off, rfl, hb, f0, f1⟩ := pts_first hP2 (by omega)
    have f0' := cell_regrown f0
    have f1' := cell_regrown f1
    have c1' := cell_regrown c1
    have c2' := cell_regrown c2
    clear f0 f1 c1 c2 hP1 hP2
    generalize inI l1 (ptAt l2 0) = u at *
    generalize ptAt l2 0 = q at *
    go_enter Tryd.func92, Tryd.ntmps92
    go_wp2_with fail
    refine wp_region_quiet_below (by kernel_rfl) (by kernel_rfl) ?_
    repeat (first | go_big_quiet_step (first | (go_at_call 109; with_reducible exact Calls.regrown_of (HM.out _ _)) | (go_at_call 52; with_reducible exact Calls.regrown_of (HW.out _ _))))
    refine wpQuiet_nil ?_
    intro _ hw'
    obtain ⟨⟨dq, osq⟩, hw''⟩ := hw'
    subst hw''
    have J := below_regrown w dq osq
    generalize grow (redrawn w dq) osq = v at J ⊢
    go_wp2_with fail
    go_ret
    exact ⟨ret_bool e1.out.symm, J⟩
set_option maxRecDepth 100000 in
set_option maxHeartbeats 4000000 in
theorem beside_any (B1 B2 : Nat) (a1 a2 : Option Addr) (len1 cap1 len2 cap2 : Nat) (l1 l2 : List P2) (hl1 : len1 ≤ 1048576) (hl2 : len2 ≤ 1048576) (ok1 : okV l1 = true) (ok2 : okV l2 = true) (w : World)
    (c1 : w.cell? ⟨B1, 0, none⟩ = some (.slice a1 len1 cap1)) (c2 : w.cell? ⟨B2, 0, none⟩ = some (.slice a2 len2 cap2)) (hP1 : Pts w.heap.size w a1 len1 l1) (hP2 : Pts w.heap.size w a2 len2 l2) :
    Calls Tryd.prog 93 #[.pointer (some ⟨B1, 0, none⟩), .pointer (some ⟨B2, 0, none⟩)] w fun e W' => e = .returned (.bool (beB l1 l2)) ∧ Below w.heap.size w W' := by
  have z1 : B1 < w.heap.size := World.block_lt_of_cell? _ _ c1
  have z2 : B2 < w.heap.size := World.block_lt_of_cell? _ _ c2
  have hlen1 : 3 ≤ len1 := by have := okV_pos ok1; have := hP1.1; omega
  have hlen2 : 3 ≤ len2 := by have := okV_pos ok2; have := hP2.1; omega
  have HM : Hid (∀ d os, Calls Tryd.prog 109 #[.pointer (some ⟨B1, 0, none⟩), .pointer (some ⟨B2, 0, none⟩)] (grow (redrawn w d) os) fun e W' => e = .returned (.bool (!apL l1 l2)) ∧ Below (grow (redrawn w d) os).heap.size (grow (redrawn w d) os) W') := fun d os =>
    meets_any B1 B2 a1 a2 len1 cap1 len2 cap2 l1 l2 hl1 hl2 ok1 ok2 _ (cell_regrown c1 d os) (cell_regrown c2 d os) ((hP1.below (below_regrown w d os)).grow (below_regrown w d os).size) ((hP2.below (below_regrown w d os)).grow (below_regrown w d os).size)
  have HW : Hid (∀ d os, Calls Tryd.prog 52 #[.slice a1 len1 cap1, .agg #[.int .i64 (ptAt l2 0).1, .int .i64 (ptAt l2 0).2]] (grow (redrawn w d) os) fun e W' => e = .returned (.int .i64 (inI l1 (ptAt l2 0))) ∧ Below (grow (redrawn w d) os).heap.size (grow (redrawn w d) os) W') := fun d os =>
    where_any a1 len1 cap1 l1 (ptAt l2 0) hl1 ok1 (okV_first ok2) _ ((hP1.below (below_regrown w d os)).grow (below_regrown w d os).size)
  have HV : Hid (∀ d os, Calls Tryd.prog 52 #[.slice a2 len2 cap2, .agg #[.int .i64 (ptAt l1 0).1, .int .i64 (ptAt l1 0).2]] (grow (redrawn w d) os) fun e W' => e = .returned (.int .i64 (inI l2 (ptAt l1 0))) ∧ Below (grow (redrawn w d) os).heap.size (grow (redrawn w d) os) W') := fun d os =>
    where_any a2 len2 cap2 l2 (ptAt l1 0) hl2 ok2 (okV_first ok1) _ ((hP2.below (below_regrown w d os)).grow (below_regrown w d os).size)
  have p1 : (0 : Int) < (len2 : Int) := by omega
  have p2 : (0 : Int) < (len1 : Int) := by omega
  cases hap : apL l1 l2
  · rw [hap] at HM
    have e1 : Hid (beB l1 l2 = false) := by change _ = _; unfold beB; rw [hap]; rfl
    clear hap
    go_enter Tryd.func93, Tryd.ntmps93
    go_wp2_with fail
    refine wp_region_quiet_below (by kernel_rfl) (by kernel_rfl) ?_
    repeat (first | go_big_quiet_step (first | (go_at_call 109; with_reducible exact Calls.regrown_of (HM.out _ _))))
    refine wpQuiet_nil ?_
    intro _ hw'
    obtain ⟨⟨dq, osq⟩, hw''⟩ := hw'
    subst hw''
    have J := below_regrown w dq osq
    generalize grow (redrawn w dq) osq = v at J ⊢
    go_wp2_with fail
    go_ret
    exact ⟨ret_bool e1.out.symm, J⟩
  rw [hap] at HM
  have e1 : Hid (beB l1 l2 = ((inI l1 (ptAt l2 0) == -1) && (inI l2 (ptAt l1 0) == -1))) := by
    change _ = _; rw [Bool.eq_iff_iff, beB_iff, hap]; simp
  clear hap
  obtain ⟨b, off, rfl, hb, f0, f1⟩ := pts_first hP2 (by omega)
  obtain ⟨b', off', rfl, hb', g0, g1⟩ := pts_first hP1 (by omega)
  have f0' := cell_regrown f0
  have f1' := cell_regrown f1
  have g0' := cell_regrown g0
  have g1' := cell_regrown g1
  have c1' := cell_regrown c1
  have c2' := cell_regrown c2
  clear f0 f1 g0 g1 c1 c2 hP1 hP2
  generalize inI l1 (ptAt l2 0) = u at *
  generalize inI l2 (ptAt l1 0) = u' at *
  generalize ptAt l2 0 = q at *
  generalize ptAt l1 0 = q' at *
  cases hu : u == -1
  · rw [hu] at e1
    go_enter Tryd.func93, Tryd.ntmps93
    go_wp2_with fail
    refine wp_region_quiet_below (by kernel_rfl) (by kernel_rfl) ?_
    repeat (first | go_big_quiet_step (first | (go_at_call 109; with_reducible exact Calls.regrown_of (HM.out _ _)) | (go_at_call 52; with_reducible exact Calls.regrown_of (HW.out _ _)) | (go_at_call 52; with_reducible exact Calls.regrown_of (HV.out _ _))))
    refine wpQuiet_nil ?_
    intro _ hw'
    obtain ⟨⟨dq, osq⟩, hw''⟩ := hw'
    subst hw''
    have J := below_regrown w dq osq
    generalize grow (redrawn w dq) osq = v at J ⊢
    go_wp2_with fail
    go_ret
    exact ⟨ret_bool e1.out.symm, J⟩
  · rw [hu] at e1
    go_enter Tryd.func93, Tryd.ntmps93
    go_wp2_with fail
    refine wp_region_quiet_below (by kernel_rfl) (by kernel_rfl) ?_
    repeat (first | go_big_quiet_step (first | (go_at_call 109; with_reducible exact Calls.regrown_of (HM.out _ _)) | (go_at_call 52; with_reducible exact Calls.regrown_of (HW.out _ _)) | (go_at_call 52; with_reducible exact Calls.regrown_of (HV.out _ _))))
    refine wpQuiet_nil ?_
    intro _ hw'
    obtain ⟨⟨dq, osq⟩, hw''⟩ := hw'
    subst hw''
    have J := below_regrown w dq osq
    generalize grow (redrawn w dq) osq = v at J ⊢
    go_wp2_with fail
    go_ret
    exact ⟨ret_bool e1.out.symm, J⟩
end Go.Proofs.YtfnhbdanfnpdeaaDoor
