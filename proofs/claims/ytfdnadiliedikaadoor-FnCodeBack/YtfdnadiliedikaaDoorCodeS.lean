/-
  OUR OWN TEXT. The program's path between turns, by contract, at whatever points.
-/
import Derived.Test.YtfdnadiliedikaaDoorCodeU
import Derived.Test.YtfdnadiliedikaaDoorSCodeS
namespace Go.Proofs.YtfdnadiliedikaaDoor
open Go.RowKit Go.Sort

theorem sCodeStay_any (a : Option Addr) (np cp : Nat) (l : List P2) (w : World) (hn : np ≤ 1048576) (hP : Pts w.heap.size w a np l) :
    Calls Tryd.prog 26 #[.slice a np cp] w fun e W' => ∃ v, e = .returned (.tuple #[v, .bool (stayV l)]) ∧ AnsT w.heap.size W'.heap.size W' v (stayR l) ∧ Below w.heap.size w W' := by
  have h1 := sStay_any a np cp l w hn hP
  go_enter Tryd.func26, Tryd.ntmps26
  go_wp2_with fail
  refine h1.mono ?_
  rintro e w1 ⟨v, rfl, A, J⟩
  go_wp2_with fail
  go_ret2
  exact ⟨v, rfl, A, J⟩
theorem cmp_sg (x y : Int) : cmpI x y = sg1 (x - y) := by
  rcases Int.lt_trichotomy x y with h | h | h
  · rw [sg1_neg (by omega)]; unfold cmpI; rw [if_pos h]
  · subst h; rw [Int.sub_self]; unfold cmpI; simp [sg1]
  · rw [sg1_pos (by omega)]; unfold cmpI; rw [if_neg (by omega), if_pos h]
theorem sg1_bd (x : Int) : -1 ≤ sg1 x ∧ sg1 x ≤ 1 := by
  rcases Int.lt_trichotomy x 0 with h | h | h
  · rw [sg1_neg h]; omega
  · subst h; rw [sg1_zero]; omega
  · rw [sg1_pos h]; omega
theorem inlP_way (a b : P2) : inlP a b = decide (dt 0 0 (wayP a b).1 (wayP a b).2 (wayP a b).1 (wayP a b).2 = 1) := by
  obtain ⟨ax, ay⟩ := a
  obtain ⟨bx, b_y⟩ := b
  rw [Bool.eq_iff_iff]
  simp only [inlP, wayP, dt, Bool.and_eq_true, decide_eq_true_eq, ne_eq, Prod.mk.injEq, Int.sub_zero]
  rcases Int.lt_trichotomy (bx - ax) 0 with h | h | h <;> rcases Int.lt_trichotomy (b_y - ay) 0 with h' | h' | h'
  all_goals
    first | rw [sg1_neg h] | rw [h, sg1_zero] | rw [sg1_pos h]
    first | rw [sg1_neg h'] | rw [h', sg1_zero] | rw [sg1_pos h']
    simp
    try omega
set_option maxHeartbeats 400000 in
theorem square_small (x y : Int) (w : World) (hx : -1 ≤ x ∧ x ≤ 1) (hy : -1 ≤ y ∧ y ≤ 1) :
    Calls Tryd.prog 53 #[.agg #[.int .i64 0, .int .i64 0], .agg #[.int .i64 x, .int .i64 y]] w fun e w' => e = .returned (.int .i64 (dt 0 0 x y x y)) ∧ Below w.heap.size w w' := by
  have h1 := prod_bd (x := x - 0) (y := x - 0) (by omega) (by omega) (by omega) (by omega)
  have h2 := prod_bd (x := y - 0) (y := y - 0) (by omega) (by omega) (by omega) (by omega)
  have hA : ∀ V, Calls Tryd.prog 71 #[.agg #[.int .i64 0, .int .i64 0], .agg #[.int .i64 x, .int .i64 y], .agg #[.int .i64 x, .int .i64 y]] V fun e w' => e = .returned (.int .i64 (dt 0 0 x y x y)) ∧ Below V.heap.size V w' := fun V => by
    have e1 : Hid (dt 0 0 x y x y = x * x + y * y) := by change _ = _; unfold dt; rw [Int.sub_zero, Int.sub_zero]
    rw [Int.sub_zero] at h1 h2
    go_enter Tryd.func71, Tryd.ntmps71
    go_wp2_with fail
    go_ret
    exact ⟨by rw [e1.out]; rfl, (by repeat (first | exact bw_refl _ | assumption | apply bw_drewN | apply bw_drew | apply bw_alloc | refine bw_set ?_ (by simp) _))⟩
  go_enter Tryd.func53, Tryd.ntmps53
  go_wp2_with fail
  refine (hA _).mono ?_
  rintro e v ⟨rfl, J⟩
  go_wp2_with fail
  go_ret
  exact ⟨rfl, bw_trans (by repeat (first | exact bw_refl _ | assumption | apply bw_drewN | apply bw_drew | apply bw_alloc | refine bw_set ?_ (by simp) _)) J⟩
theorem stay_pathP {t : List P2} (h1 : 1 ≤ t.length) (h2 : ∀ i, i < t.length → okP (ptAt t i) = true) (h3 : ∀ i, i + 1 < t.length → inlP (ptAt t i) (ptAt t (i + 1)) = true) (h4 : t.length ≤ 400) : pathP (stayL t) = stayV t := by
  have hin := (inL_iff t).2 h3
  have hok := all_at.2 h2
  have hch : chL (stayL t) = true ∧ (∀ p ∈ stayL t, okP p = true) ∧ 1 ≤ (stayL t).length := by
    match t, h1, hin, hok with
    | a :: r, _, hin, hok =>
      refine ⟨stayG_ch hin, fun p hp => ?_, by show 1 ≤ (a :: stayG a r).length; simp⟩
      rcases List.mem_cons.1 hp with rfl | hp
      · exact hok _ List.mem_cons_self
      · exact stayG_ok hin (hok _ List.mem_cons_self) (fun q hq => hok q (List.mem_cons_of_mem _ hq)) p hp
  rw [Bool.eq_iff_iff]
  constructor
  · intro h
    exact stayV_of ⟨h1, h4⟩ hok hin (pathP_parts h).1.2
  · intro h
    exact stay_path h
set_option maxRecDepth 100000 in
set_option maxHeartbeats 4000000 in
theorem codeStay_any (a : Option Addr) (np cp : Nat) (l : List P2) (w : World) (hn : np ≤ 1048576) (hcp : np ≤ cp) (hP : Pts w.heap.size w a np l) :
    Calls Tryd.prog 27 #[.slice a np cp] w fun e W' => ∃ v, e = .returned (.tuple #[v, .bool (stayV l)]) ∧ AnsT w.heap.size W'.heap.size W' v (stayR l) ∧ Below w.heap.size w W' := by
  obtain ⟨i0, hi0, hz0, hz1, hz2⟩ := info_parts Tryd.infoPt
  have hmx : Tryd.prog.follows .mixedOrders = true := by kernel_rfl
  have h1 := enough_any a np cp l w hP hn
  have hF : ∀ (h : stayV l = false), Hid (stayV l = false ∧ stayR l = []) := fun h => ⟨h, by unfold stayR; rw [h]; rfl⟩
  cases hen : enV l
  · have e1 := hF (by rw [Bool.eq_false_iff]; intro h; have h' := stayV_iff.1 h; rw [enV_iff.2 ⟨h'.1, h'.2.1⟩] at hen; cases hen)
    rw [hen] at h1
    go_enter Tryd.func27, Tryd.ntmps27
    go_wp2_with fail
    refine h1.mono ?_
    rintro e w1 ⟨rfl, J⟩
    go_wp2_with fail
    go_ret2
    exact ⟨_, by rw [e1.out.1]; rfl, .inl ⟨e1.out.2, _, _, rfl⟩, J⟩
  rw [hen] at h1
  obtain ⟨⟨hl1, hl2⟩, hok⟩ := enV_iff.1 hen
  obtain ⟨hlen, hP⟩ := hP
  have HL : Hid (l.length = np) := hlen
  have HOK : Hid (∀ i, i < np → okP (ptAt l i) = true) := fun i hi => hok i (by rw [hlen]; exact hi)
  rw [hlen] at hl1 hl2
  rcases hP with h0 | ⟨g, off, rfl, hg, hc⟩
  · omega
  have HC : Hid (∀ j, j < np → w.cell? ⟨g, off + j * 2, none⟩ = some (.int .i64 (ptAt l j).1) ∧ w.cell? ⟨g, off + j * 2 + 1, none⟩ = some (.int .i64 (ptAt l j).2)) := hc
  clear hlen hc hok hen
  obtain ⟨m, rfl⟩ : ∃ m, np = m + 1 := ⟨np - 1, by omega⟩
  obtain ⟨c, rfl⟩ : ∃ c, cp = c + 1 := ⟨cp - 1, by omega⟩
  have j1 : (1 : Int) ≤ ((m + 1 : Nat) : Int) := by omega
  have j2 : ((m + 1 : Nat) : Int) ≤ ((c + 1 : Nat) : Int) := by omega
  obtain ⟨d0, d1⟩ := HC.out 0 (by omega)
  simp only [Nat.zero_mul, Nat.add_zero] at d0 d1
  rcases Nat.eq_zero_or_pos m with hm | hm
  · subst hm
    have hl0 : l = [ptAt l 0] := by
      have h0 := HL.out
      match l, h0 with
      | [p], _ => simp [ptAt]
    have e2 : stayL l = [ptAt l 0] := by rw [hl0]; simp [stayL, stayG, ptAt]
    have e1 : Hid (stayV l = true ∧ stayR l = [ptAt l 0]) := by
      have hv : stayV l = true := stayV_iff.2 ⟨by rw [HL.out]; omega, fun i hi => HOK.out i (by rw [HL.out] at hi; exact hi), fun i hi => by rw [HL.out] at hi; omega, by rw [e2]; simp⟩
      exact ⟨hv, by unfold stayR; rw [hv, e2]; rfl⟩
    have hp1 : pathP [ptAt l 0] = true := pathP_iff.2 ⟨by simp, fun i hi => by obtain rfl : i = 0 := (by simpa using hi); rw [ptAt_zero]; exact HOK.out 0 (by omega), fun i hi => by simp at hi⟩
    clear e2 hl0
    have i3 : (0 : Int) < ((0 + 1 : Nat) : Int) := by omega
    go_enter Tryd.func27, Tryd.ntmps27
    go_wp2_with fail
    refine h1.mono ?_
    rintro e w1 ⟨rfl, J⟩
    obtain ⟨q0, q1⟩ := (⟨(J.cell (p := ⟨g, off, none⟩) hg).trans d0, (J.cell (p := ⟨g, off + 1, none⟩) hg).trans d1⟩ : _ ∧ _)
    have own0 : (w1.alloc (.cells #[.int .i64 (ptAt l 0).1, .int .i64 (ptAt l 0).2] 42)).ownsRow w.heap.size 42 2 (.slice (some ⟨w1.heap.size, 0, none⟩) 1 1) 1 (ptCells [ptAt l 0]) := own_lit (heap_new w1 _) J.size rfl (Nat.le_refl _) (by simp [maxLen]) rfl rfl
    have hIs := isPath_any (some ⟨w1.heap.size, 0, none⟩) 1 1 [ptAt l 0] (w1.alloc (.cells #[.int .i64 (ptAt l 0).1, .int .i64 (ptAt l 0).2] 42)) (Nat.le_refl _) ((blk_of_own own0 rfl).1.pts' rfl) (by omega)
    rw [hp1] at hIs
    go_wp2_with fail
    all_goals
      refine wp_loop_rounds 2 ?_
      rw [rounds_succ]
      go_wp2_with fail
      refine hIs.mono ?_
      rintro e w2 ⟨rfl, J2⟩
      go_wp2_with fail
      go_ret2
      refine ⟨_, by rw [e1.out.1]; rfl, ?_, bw_trans (bw_alloc J _) J2⟩
      rw [e1.out.2]
      exact AnsT.of_own (own0.kept (w' := w2) (row := none) ⟨J2.os, J2.tape, J2.output, J2.size, fun j hj _ => J2.block j hj⟩ (Classical.em _)) rfl
  · have hc0 : (c = 0) = False := by simp; omega
    have k1 : IntKind.i64.wrap ((m : Int)) = (m : Int) := wrap_small (by omega) (by omega)
    have i3 : (0 : Int) < (m : Int) + 1 := by omega
    go_enter Tryd.func27, Tryd.ntmps27
    go_wp2_with fail
    refine h1.mono ?_
    rintro e w1 ⟨rfl, J⟩
    obtain ⟨q0, q1⟩ := (⟨(J.cell (p := ⟨g, off, none⟩) hg).trans d0, (J.cell (p := ⟨g, off + 1, none⟩) hg).trans d1⟩ : _ ∧ _)
    go_wp2_with fail
    go_loopw [4, 19] (fun o i wr => ∃ k : Nat, k ≤ m ∧ i = .int .i64 k ∧ (∀ j, j < k → inlP (ptAt l j) (ptAt l (j + 1)) = true) ∧ wr.ownsRow w.heap.size 42 2 o (stayL (l.take (k + 1))).length (ptCells (stayL (l.take (k + 1)))) ∧ Below w.heap.size w wr) (fun _ i _ => m - (intOf i).toNat)
    case atStart => exact ⟨0, Nat.zero_le _, rfl, fun j hj => absurd hj (Nat.not_lt_zero _), by rw [stay_take1 (by rw [HL.out]; omega)]; exact own_lit (heap_new w1 _) J.size rfl (Nat.le_refl _) (by simp [maxLen]) rfl rfl, bw_alloc J _⟩
    case round =>
      obtain ⟨k, hk, rfl, hin, hown, hnx⟩ := hrel
      have HIN : Hid (∀ j, j < k → inlP (ptAt l j) (ptAt l (j + 1)) = true) := hin
      have hlen : (stayL (l.take (k + 1))).length ≤ 9 * k + 1 := by
        have e0 := stay_len_take (t := l.take (k + 1)) (fun i hi => by rw [List.length_take] at hi; rw [ptAt_take (by omega)]; exact HOK.out i (by omega)) k (by rw [List.length_take, HL.out]; omega) (fun i hi => by rw [ptAt_take (by omega), ptAt_take (by omega)]; exact HIN.out i (by omega))
        rwa [List.take_take, Nat.min_self] at e0
      clear hin
      have hzz := hnx.size
      by_cases hlt : k < m
      case neg =>
        obtain rfl : k = m := by omega
        have et : l.take (k + 1) = l := List.take_of_length_le (by rw [HL.out]; exact Nat.le_refl _)
        rw [et] at hown hlen
        have hPV := stay_pathP (t := l) (by rw [HL.out]; omega) (fun i hi => HOK.out i (by rw [HL.out] at hi; exact hi)) (fun i hi => HIN.out i (by rw [HL.out] at hi; omega)) (by rw [HL.out]; exact hl2)
        have hn1 : 1 ≤ (stayL l).length := by
          have e0 := stay_mono (t := l) (k := 1) (Nat.le_refl 1) k (by rw [HL.out]; omega)
          rw [stay_take1 (by rw [HL.out]; omega), Nat.add_comm 1 k, et] at e0
          exact e0
        obtain ⟨n, hn'⟩ : ∃ n, n = (stayL l).length := ⟨_, rfl⟩
        have HN : Hid ((stayL l).length = n) := hn'.symm
        rw [← hn'] at hown hlen hn1
        clear hn' et
        obtain ⟨g2, c2, rfl, _, _⟩ := hown.form (by omega)
        obtain ⟨hb3, hb4, _, _⟩ := blk_of_own hown HN.out
        have hIs := isPath_any (some ⟨g2, 0, none⟩) n c2 (stayL l) wr hb4 (hb3.pts' HN.out) (by omega)
        rw [hPV] at hIs
        clear hPV
        cases hv : stayV l
        · have e1 := hF hv
          rw [hv] at hIs
          go_wp2_with fail
          refine hIs.mono ?_
          rintro e w2 ⟨rfl, J2⟩
          go_wp2_with fail
          go_ret2
          exact ⟨_, by rw [e1.out.1]; rfl, .inl ⟨e1.out.2, _, _, rfl⟩, bw_trans hnx J2⟩
        · have e1 : Hid (stayV l = true) := hv
          have e2 : Hid (stayR l = stayL l) := by change _ = _; unfold stayR; rw [hv]; rfl
          rw [hv] at hIs
          go_wp2_with fail
          refine hIs.mono ?_
          rintro e w2 ⟨rfl, J2⟩
          go_wp2_with fail
          go_ret2
          exact ⟨_, by rw [e1.out]; rfl, by rw [e2.out]; exact AnsT.of_own (hown.kept (w' := w2) (row := none) ⟨J2.os, J2.tape, J2.output, J2.size, fun j hj _ => J2.block j hj⟩ (Classical.em _)) HN.out, bw_trans hnx J2⟩
      case pos =>
        obtain ⟨ax, hax⟩ : ∃ ax, ax = (ptAt l k).1 := ⟨_, rfl⟩
        obtain ⟨ay, hay⟩ : ∃ ay, ay = (ptAt l k).2 := ⟨_, rfl⟩
        obtain ⟨bx, hbx⟩ : ∃ bx, bx = (ptAt l (k + 1)).1 := ⟨_, rfl⟩
        obtain ⟨b_y, hby⟩ : ∃ b_y, b_y = (ptAt l (k + 1)).2 := ⟨_, rfl⟩
        have HA : Hid (ptAt l k = (ax, ay)) := by change _ = _; rw [hax, hay]
        have HB : Hid (ptAt l (k + 1) = (bx, b_y)) := by change _ = _; rw [hbx, hby]
        have i4 : (0 : Int) ≤ (k : Int) := Int.natCast_nonneg _
        have i5 : (k : Int) < (m : Int) := by omega
        have i6 : (k : Int) < (m : Int) + 1 := by omega
        obtain ⟨d0, d1⟩ := HC.out (k + 1) (by omega)
        obtain ⟨d2, d3⟩ := HC.out k (by omega)
        rw [HB.out] at d0 d1
        rw [HA.out] at d2 d3
        simp only at d0 d1 d2 d3
        have p0 := (hnx.cell (p := ⟨g, off + (k + 1) * 2, none⟩) hg).trans d0
        have p1 := (hnx.cell (p := ⟨g, off + (k + 1) * 2 + 1, none⟩) hg).trans d1
        rw [show off + (k + 1) * 2 = off + 2 + k * 2 by omega] at p0 p1
        obtain ⟨V, hV, BV, T6⟩ : ∃ V, V = wr.alloc (.cells #[.int .i64 bx, .int .i64 b_y] 42) ∧ Below wr.heap.size wr V ∧ V.heap[wr.heap.size]? = some (.cells #[.int .i64 bx, .int .i64 b_y] 42) := ⟨_, rfl, (by repeat (first | exact bw_refl _ | assumption | apply bw_drewN | apply bw_drew | apply bw_alloc | refine bw_set ?_ (by simp) _)), heap_new _ _⟩
        have hnV := bw_trans hnx BV
        have zT6 := blk_lt T6
        obtain ⟨t0, t1⟩ := blk_2 T6
        have hgV : g < V.heap.size := Nat.lt_of_lt_of_le hg hnV.size
        have hS0 : (fun u : World => u.cell? ⟨g, off + k * 2, none⟩ = some (.int .i64 ax) ∧ u.cell? ⟨g, off + k * 2 + 1, none⟩ = some (.int .i64 ay) ∧ u.cell? ⟨wr.heap.size, 0, none⟩ = some (.int .i64 bx) ∧ u.cell? ⟨wr.heap.size, 1, none⟩ = some (.int .i64 b_y)) V.drew := ⟨(hnV.cell (p := ⟨g, off + k * 2, none⟩) hg).trans d2, (hnV.cell (p := ⟨g, off + k * 2 + 1, none⟩) hg).trans d3, t0, t1⟩
        have X1 := fun V => step_any (ptAt l k) (ptAt l (k + 1)) V
        rw [HA.out, HB.out] at X1
        simp only [cmp_sg] at X1
        obtain ⟨d1x, hd1x⟩ : ∃ d, d = sg1 (bx - ax) := ⟨_, rfl⟩
        obtain ⟨d2x, hd2x⟩ : ∃ d, d = sg1 (b_y - ay) := ⟨_, rfl⟩
        rw [← hd1x, ← hd2x] at X1
        have HD : Hid (wayP (ptAt l k) (ptAt l (k + 1)) = (d1x, d2x)) := by change _ = _; rw [HA.out, HB.out, hd1x, hd2x]; rfl
        have bd1 := sg1_bd (bx - ax)
        have bd2 := sg1_bd (b_y - ay)
        rw [← hd1x] at bd1
        rw [← hd2x] at bd2
        replace X1 : Hid _ := X1
        clear d0 d1 d2 d3 hax hay hbx hby t0 t1 hd1x hd2x
        go_upto_region 7 with fail
        rw [← hV]
        clear hV p0 p1
        go_region_held3 (fun u : World => u.cell? ⟨g, off + k * 2, none⟩ = some (.int .i64 ax) ∧ u.cell? ⟨g, off + k * 2 + 1, none⟩ = some (.int .i64 ay) ∧ u.cell? ⟨wr.heap.size, 0, none⟩ = some (.int .i64 bx) ∧ u.cell? ⟨wr.heap.size, 1, none⟩ = some (.int .i64 b_y)) (first | exact hS0 | exact cB4 K hS0 | exact cA4 hS0 | exact cB4 K (cA4 hS0) | exact cA4 (cB4 K hS0) | exact cS4 (cB4 K (cA4 hS0)) (by dsimp only; omega) (by dsimp only; omega) (by dsimp only; omega) (by dsimp only; omega)) (first | (go_at_call 41; (with_reducible refine (X1.out _).mono ?_); rintro e v1 ⟨rfl, K⟩; (try (have T7 : v1.heap[V.heap.size]? = some (.cells #[.int .i64 0, .int .i64 0] 42) := keep K (heap_new V.drew (.cells #[.int .i64 0, .int .i64 0] 42)); obtain ⟨y0, y1, y2, y3⟩ := blk2 T7))))
        · skip
          obtain ⟨Wz, hWz⟩ : ∃ Wz, Wz = v1.alloc (.cells #[.int .i64 d1x, .int .i64 d2x] 42) := ⟨_, rfl⟩
          have KB : Below V.heap.size V v1 := bw_trans (show Below V.heap.size V V.drew from bw_drew (bw_refl _)) K
          have zV1 := KB.size
          have M7 : Wz.heap[v1.heap.size]? = some (.cells #[.int .i64 d1x, .int .i64 d2x] 42) := by rw [hWz]; exact heap_new v1 _
          have BZ : Below V.heap.size V Wz := by rw [hWz]; exact bw_alloc KB _
          have zb7 : wr.heap.size < v1.heap.size ∧ v1.heap.size < Wz.heap.size := ⟨by omega, by rw [hWz]; simp⟩
          have nz := bw_trans hnV BZ
          have M6 := keep BZ T6
          have hownz := hown.kept (w' := Wz) (row := none) ⟨(bw_trans BV BZ).os, (bw_trans BV BZ).tape, (bw_trans BV BZ).output, (bw_trans BV BZ).size, fun j hj _ => (bw_trans BV BZ).block j hj⟩ (Classical.em _)
          have hob : ∀ b, u4.ownBlock = some b → b < wr.heap.size := fun b e => (hown.lt b e).2
          rw [← hWz]
          clear hWz K KB hS0 BV BZ hnV T6 hown
          generalize v1.heap.size = b7 at *
          generalize wr.heap.size = b6 at *
          have zw := nz.size
          obtain ⟨t0, t1⟩ := blk_2 M7
          have hSq := square_small d1x d2x
          obtain ⟨z, hz⟩ : ∃ z, z = dt 0 0 d1x d2x d1x d2x := ⟨_, rfl⟩
          have HZ : Hid (inlP (ptAt l k) (ptAt l (k + 1)) = decide (z = 1)) := by change _ = _; rw [inlP_way, HD.out, hz]
          rw [← hz] at hSq
          clear hz
          by_cases hz1' : z = 1
          case neg =>
            have e1 := hF (stayV_inl (i := k) (by rw [HL.out]; omega) (by rw [HZ.out]; exact decide_eq_false hz1'))
            have z1 : (z != 1) = true := by simpa using hz1'
            have z2 : (z == 1) = false := by simpa using hz1'
            clear hz1'
            go_wp2_with fail
            refine (hSq _ bd1 bd2).mono ?_
            rintro e v8 ⟨rfl, J8⟩
            go_wp2_with fail
            go_ret2
            exact ⟨_, by rw [e1.out.1]; rfl, .inl ⟨e1.out.2, _, _, rfl⟩, bw_trans nz J8⟩
          case pos =>
            have hil : inlP (ptAt l k) (ptAt l (k + 1)) = true := by rw [HZ.out]; exact decide_eq_true hz1'
            subst hz1'
            clear HZ
            go_wp2_with fail
            refine (hSq _ bd1 bd2).mono ?_
            rintro e v8 ⟨rfl, J8⟩
            replace M6 := keep J8 M6
            replace M7 := keep J8 M7
            have hown8 := hownz.kept (w' := v8) (row := none) ⟨J8.os, J8.tape, J8.output, J8.size, fun j hj _ => J8.block j hj⟩ (Classical.em _)
            have n8 := bw_trans nz J8
            have z8 := J8.size
            have zn8 := n8.size
            obtain ⟨c2, c3⟩ := HC.out k (by omega)
            rw [HA.out] at c2 c3
            simp only at c2 c3
            have p2 := (n8.cell (p := ⟨g, off + k * 2, none⟩) hg).trans c2
            have p3 := (n8.cell (p := ⟨g, off + k * 2 + 1, none⟩) hg).trans c3
            clear c2 c3 hownz t0 t1
            obtain ⟨n, hnn⟩ : ∃ n, n = distP (ptAt l k) (ptAt l (k + 1)) := ⟨_, rfl⟩
            obtain ⟨M, hM⟩ : ∃ M, M = (stayL (l.take (k + 1))).length := ⟨_, rfl⟩
            obtain ⟨d, hd⟩ : ∃ d, d = wayP (ptAt l k) (ptAt l (k + 1)) := ⟨_, rfl⟩
            have HD1 : Hid (d.1 = d1x ∧ d.2 = d2x) := by change _ ∧ _; rw [hd, HD.out]; exact ⟨rfl, rfl⟩
            have HD0 : Hid (d = wayP (ptAt l k) (ptAt l (k + 1)) ∧ n = distP (ptAt l k) (ptAt l (k + 1))) := ⟨hd, hnn⟩
            have hok' := HOK.out k (by omega)
            have hoB := HOK.out (k + 1) (by omega)
            have HLEG : Hid (∀ j, j < n → addP (ptAt l k) d j ≠ (bx, b_y)) := fun j hj => by rw [hd, ← HB.out]; exact (leg_at hil (by rw [← hnn]; exact hj)).2
            have HBD : Hid (∀ j, j ≤ n → okP (addP (ptAt l k) d j) = true) := fun j hj => by rw [hd]; exact leg_bd hil hok' hoB (by rw [← hnn]; exact hj)
            have HEND : Hid (addP (ptAt l k) d n = (bx, b_y)) := by change _ = _; rw [hd, hnn, leg_end hil, HB.out]
            have hn9 : n ≤ 9 := by rw [hnn]; exact distP_ok hok' hoB hil
            have HIL : Hid (inlP (ptAt l k) (ptAt l (k + 1)) = true) := hil
            rw [← hM] at hown8 hlen
            have HM : Hid ((stayL (l.take (k + 1))).length = M) := hM.symm
            have hm1 : 1 ≤ M := by
              rw [hM]
              have e0 := stay_mono (t := l) (k := 1) (Nat.le_refl 1) k (by rw [HL.out]; omega)
              rw [stay_take1 (by rw [HL.out]; omega), Nat.add_comm 1 k] at e0
              exact e0
            clear hM hd hnn hil hok' hoB
            go_wp2_with fail
            have zb8 : b6 < v8.heap.size ∧ b7 < v8.heap.size := ⟨blk_lt M6, blk_lt M7⟩
            have hob8 : ∀ b, u4.ownBlock = some b → b ≠ b6 ∧ b ≠ b7 ∧ b ≠ v8.heap.size := fun b e => by have := hob b e; omega
            have M8 : (v8.alloc (.cells #[.int .i64 ax, .int .i64 ay] 42)).heap[v8.heap.size]? = some (.cells #[.int .i64 ax, .int .i64 ay] 42) := heap_new v8 _
            replace M6 := (Below.heap_alloc v8 (.cells #[.int .i64 ax, .int .i64 ay] 42) _ (blk_lt M6)).trans M6
            replace M7 := (Below.heap_alloc v8 (.cells #[.int .i64 ax, .int .i64 ay] 42) _ (blk_lt M7)).trans M7
            go_loopw [4, 8] (fun o q wr => ∃ (j b8 : Nat), q = .pointer (some ⟨b8, 0, none⟩) ∧ j ≤ n ∧ wr.ownsRow w.heap.size 42 2 o (M + j) (ptCells (stayL (l.take (k + 1)) ++ lineL (ptAt l k) d j)) ∧ (∀ b, o.ownBlock = some b → b ≠ b6 ∧ b ≠ b7 ∧ b ≠ b8) ∧ wr.heap[b8]? = some (.cells #[.int .i64 (addP (ptAt l k) d j).1, .int .i64 (addP (ptAt l k) d j).2] 42) ∧ wr.heap[b7]? = some (.cells #[.int .i64 d1x, .int .i64 d2x] 42) ∧ wr.heap[b6]? = some (.cells #[.int .i64 bx, .int .i64 b_y] 42) ∧ (w.heap.size ≤ b8 ∧ b8 ≠ b7 ∧ b8 ≠ b6) ∧ Below w.heap.size w wr) (fun o _ _ => M + n - lenOf o)
            case atStart => exact ⟨0, v8.heap.size, rfl, Nat.zero_le _, by rw [show lineL (ptAt l k) d 0 = [] from rfl, List.append_nil]; exact hown8.alloc _, hob8, by rw [addP_zero, HA.out]; exact M8, M7, M6, ⟨zn8, by omega, by omega⟩, bw_alloc n8 _⟩
            case round =>
              obtain ⟨j, b8, rfl, hj, hown', hob', N8, N7, N6, ⟨hb8a, hb8b, hb8c⟩, nz'⟩ := hrel
              obtain ⟨g2, c2, rfl, _, _⟩ := hown'.form (by omega)
              have ztz := nz'.size
              by_cases hjn : j < n
              case neg =>
                obtain rfl : j = n := by omega
                rw [HEND.out] at N8
                obtain ⟨s1, s2⟩ := blk_2 N8
                obtain ⟨s3, s4⟩ := blk_2 N6
                go_wp2_with fail
                go_roundw
                case rel =>
                  refine ⟨k + 1, by omega, by simp, ?_, ?_, nz'⟩
                  · intro j' hj'
                    rcases Nat.lt_or_ge j' k with h | h
                    · exact HIN.out j' h
                    · obtain rfl : j' = k := (by omega)
                      exact HIL.out
                  · have es : stayL (l.take (k + 1 + 1)) = stayL (l.take (k + 1)) ++ lineL (ptAt l k) d j := by
                      rw [stay_take (by rw [HL.out]; omega), HD0.out.1, HD0.out.2]; rfl
                    rw [es, List.length_append, lineL_len, HM.out]
                    exact hown'
                case measure => simp [intOf]; omega
              case pos =>
                obtain ⟨ux, hux⟩ : ∃ ux, ux = (addP (ptAt l k) d j).1 := ⟨_, rfl⟩
                obtain ⟨uy, huy⟩ : ∃ uy, uy = (addP (ptAt l k) d j).2 := ⟨_, rfl⟩
                have HU : Hid (addP (ptAt l k) d j = (ux, uy)) := by change _ = _; rw [hux, huy]
                have hne := HLEG.out j hjn
                have hbu := HBD.out j (by omega)
                rw [HU.out] at hne hbu
                rw [← hux, ← huy] at N8
                have hbu := (ptB_iff _ _).1 hbu
                simp only at hbu
                obtain ⟨a0, a1, a2, a3⟩ := hbu
                have k3 : IntKind.i64.wrap (ux + d1x) = ux + d1x := wrap_small (by omega) (by omega)
                have k4 : IntKind.i64.wrap (uy + d2x) = uy + d2x := wrap_small (by omega) (by omega)
                clear hux huy
                obtain ⟨s1, s2, s5, s6⟩ := blk2 N8
                obtain ⟨s3, s4⟩ := blk_2 N6
                obtain ⟨s7, s8⟩ := blk_2 N7
                have hcase : (ux = bx ∧ ¬ uy = b_y) ∨ ¬ ux = bx := by
                  by_cases h : ux = bx
                  · exact .inl ⟨h, fun h' => hne (by rw [h, h'])⟩
                  · exact .inr h
                obtain ⟨Wf, hWf⟩ : ∃ Wf, Wf = (wr.setCell ⟨b8, 0, none⟩ (.int .i64 (ux + d1x))).setCell ⟨b8, 1, none⟩ (.int .i64 (uy + d2x)) := ⟨_, rfl⟩
                have F8 : Wf.heap[b8]? = some (.cells #[.int .i64 (ux+d1x), .int .i64 (uy+d2x)] 42) := by rw [hWf, setCell_row (setCell_row N8 _) _]; rfl
                have F7 : Wf.heap[b7]? = some (.cells #[.int .i64 d1x, .int .i64 d2x] 42) := by rw [hWf]; exact set_oth (set_oth N7 (Ne.symm hb8b)) (Ne.symm hb8b)
                have F6 : Wf.heap[b6]? = some (.cells #[.int .i64 bx, .int .i64 b_y] 42) := by rw [hWf]; exact set_oth (set_oth N6 (Ne.symm hb8c)) (Ne.symm hb8c)
                have Gf : wr.grownBy Wf (some b8) := by
                  rw [hWf]
                  refine ⟨rfl, rfl, rfl, by simp, fun q hq hqne => ?_⟩
                  have hkne : q ≠ b8 := fun e => hqne (by rw [e])
                  rw [Below.heap_setCell _ _ _ _ (by show q ≠ b8; exact hkne), Below.heap_setCell _ _ _ _ (by show q ≠ b8; exact hkne)]
                obtain ⟨ho6, ho7, ho8⟩ := hob' g2 rfl
                have hownf := hown'.kept Gf (.inr (fun e => ho8 (Option.some.inj e)))
                have nf : Below w.heap.size w Wf := by rw [hWf]; exact bw_set (bw_set nz' hb8a _) hb8a _
                have zf := nf.size
                have zF8 := blk_lt F8
                have zF7 := blk_lt F7
                have zF6 := blk_lt F6
                have HS : Hid (addP (ptAt l k) d (j + 1) = (ux + d1x, uy + d2x)) := by
                  change _ = _
                  rw [← addP_one, HU.out, HD1.out.1, HD1.out.2]
                obtain ⟨p0, p1⟩ := blk_2 F8
                clear Gf hne
                rcases hcase with ⟨hcx, hcy⟩ | hcx
                · have x1 : (ux == bx) = true := by simpa using hcx
                  have x2 : (ux = bx) = True := by simpa using hcx
                  have x3 : (ux != bx) = false := by unfold bne; rw [x1]; rfl
                  have x4 : (uy == b_y) = false := by simpa using hcy
                  have x5 : (uy = b_y) = False := by simpa using hcy
                  have x6 : (uy != b_y) = true := by unfold bne; rw [x4]; rfl
                  clear hcx hcy
                  go_upto_region 13 with fail
                  rw [← hWf]
                  clear hWf s1 s2 s3 s4 s5 s6 s7 s8 N8 N7 N6
                  go_wp2_with (at_builtin; refine wpList_append_lies _ rfl _ _ _ rfl w.heap.size 42 i0 _ 2 16 Tryd.underlying23 hi0 hz0 hz1 hz2 rfl (by omega) _ _ _ rfl (hownf.alloc _) ⟨Wf.heap.size, 0, none⟩ 1 1 [.int .i64 (ux + d1x), .int .i64 (uy + d2x)] rfl rfl (World.news_of_block (cs := #[.int .i64 (ux + d1x), .int .i64 (uy + d2x)]) (t := 42) (fr := (0, 0)) (heap_alloc_new Wf _)) (by simp [Value.oneCell']) (by omega) (by simp [maxLen]; omega) (by omega) (by simp; omega) (Wf.heap.size + 1) (by simp) ?_; intro gg cap' w8 hown1 hgrow hat hlt1; have keepBlk : ∀ b o, Wf.heap[b]? = some o → b ≠ g2 → w8.heap[b]? = some o := fun b o hb hbn => (hgrow.block b (by have := blk_lt hb; simp; omega) (fun e => hbn (Option.some.inj e))).trans ((Below.heap_alloc _ _ _ (blk_lt hb)).trans hb); obtain ⟨r0, r1⟩ := blk_2 (keepBlk _ _ F8 (Ne.symm ho8)); have zw8 := hgrow.size; rw [World.size_alloc] at zw8)
                  go_roundw
                  case rel =>
                    refine ⟨j + 1, w8.heap.size, rfl, by omega, ?_, ?_, ?_, ?_, ?_, ⟨by omega, by omega, by omega⟩, bw_alloc ((nf.alloc nf.size _).grown hgrow (by simp; omega) (fun q e => (hownf.lt q e).1)) _⟩
                    · have e1 : ptCells (stayL (l.take (k + 1)) ++ lineL (ptAt l k) d (j + 1)) = ptCells (stayL (l.take (k + 1)) ++ lineL (ptAt l k) d j) ++ [.int .i64 (ux + d1x), .int .i64 (uy + d2x)] := by
                        rw [lineL_snoc, HS.out, ← List.append_assoc, ptCells_snoc]
                      rw [e1]
                      exact hown1.alloc _
                    · intro b e
                      obtain rfl : gg = b := Option.some.inj e
                      refine ⟨?_, ?_, by omega⟩
                      · rcases hat with h | h
                        · obtain rfl : g2 = gg := Option.some.inj h
                          exact ho6
                        · omega
                      · rcases hat with h | h
                        · obtain rfl : g2 = gg := Option.some.inj h
                          exact ho7
                        · omega
                    · rw [HS.out]; exact heap_new w8 _
                    · exact (Below.heap_alloc w8 _ _ (blk_lt (keepBlk _ _ F7 (Ne.symm ho7)))).trans (keepBlk _ _ F7 (Ne.symm ho7))
                    · exact (Below.heap_alloc w8 _ _ (blk_lt (keepBlk _ _ F6 (Ne.symm ho6)))).trans (keepBlk _ _ F6 (Ne.symm ho6))
                  case measure => simp [lenOf]; omega
                · have x1 : (ux == bx) = false := by simpa using hcx
                  have x2 : (ux = bx) = False := by simpa using hcx
                  have x3 : (ux != bx) = true := by unfold bne; rw [x1]; rfl
                  clear hcx
                  go_upto_region 13 with fail
                  rw [← hWf]
                  clear hWf s1 s2 s3 s4 s5 s6 s7 s8 N8 N7 N6
                  go_wp2_with (at_builtin; refine wpList_append_lies _ rfl _ _ _ rfl w.heap.size 42 i0 _ 2 16 Tryd.underlying23 hi0 hz0 hz1 hz2 rfl (by omega) _ _ _ rfl (hownf.alloc _) ⟨Wf.heap.size, 0, none⟩ 1 1 [.int .i64 (ux + d1x), .int .i64 (uy + d2x)] rfl rfl (World.news_of_block (cs := #[.int .i64 (ux + d1x), .int .i64 (uy + d2x)]) (t := 42) (fr := (0, 0)) (heap_alloc_new Wf _)) (by simp [Value.oneCell']) (by omega) (by simp [maxLen]; omega) (by omega) (by simp; omega) (Wf.heap.size + 1) (by simp) ?_; intro gg cap' w8 hown1 hgrow hat hlt1; have keepBlk : ∀ b o, Wf.heap[b]? = some o → b ≠ g2 → w8.heap[b]? = some o := fun b o hb hbn => (hgrow.block b (by have := blk_lt hb; simp; omega) (fun e => hbn (Option.some.inj e))).trans ((Below.heap_alloc _ _ _ (blk_lt hb)).trans hb); obtain ⟨r0, r1⟩ := blk_2 (keepBlk _ _ F8 (Ne.symm ho8)); have zw8 := hgrow.size; rw [World.size_alloc] at zw8)
                  go_roundw
                  case rel =>
                    refine ⟨j + 1, w8.heap.size, rfl, by omega, ?_, ?_, ?_, ?_, ?_, ⟨by omega, by omega, by omega⟩, bw_alloc ((nf.alloc nf.size _).grown hgrow (by simp; omega) (fun q e => (hownf.lt q e).1)) _⟩
                    · have e1 : ptCells (stayL (l.take (k + 1)) ++ lineL (ptAt l k) d (j + 1)) = ptCells (stayL (l.take (k + 1)) ++ lineL (ptAt l k) d j) ++ [.int .i64 (ux + d1x), .int .i64 (uy + d2x)] := by
                        rw [lineL_snoc, HS.out, ← List.append_assoc, ptCells_snoc]
                      rw [e1]
                      exact hown1.alloc _
                    · intro b e
                      obtain rfl : gg = b := Option.some.inj e
                      refine ⟨?_, ?_, by omega⟩
                      · rcases hat with h | h
                        · obtain rfl : g2 = gg := Option.some.inj h
                          exact ho6
                        · omega
                      · rcases hat with h | h
                        · obtain rfl : g2 = gg := Option.some.inj h
                          exact ho7
                        · omega
                    · rw [HS.out]; exact heap_new w8 _
                    · exact (Below.heap_alloc w8 _ _ (blk_lt (keepBlk _ _ F7 (Ne.symm ho7)))).trans (keepBlk _ _ F7 (Ne.symm ho7))
                    · exact (Below.heap_alloc w8 _ _ (blk_lt (keepBlk _ _ F6 (Ne.symm ho6)))).trans (keepBlk _ _ F6 (Ne.symm ho6))
                  case measure => simp [lenOf]; omega
        · skip
          obtain ⟨Wz, hWz⟩ : ∃ Wz, Wz = (v1.setCell ⟨V.heap.size, 0, none⟩ (.int .i64 d1x)).setCell ⟨V.heap.size, 1, none⟩ (.int .i64 d2x) := ⟨_, rfl⟩
          have KB : Below V.heap.size V v1 := bw_trans (bw_drew (bw_alloc (bw_refl _) _)) K
          have zV1 := KB.size
          have M7 : Wz.heap[V.heap.size]? = some (.cells #[.int .i64 d1x, .int .i64 d2x] 42) := by rw [hWz, setCell_row (setCell_row T7 _) _]; rfl
          have zT7 := blk_lt T7
          have BZ : Below V.heap.size V Wz := by rw [hWz]; exact bw_set (bw_set KB (Nat.le_refl _) _) (Nat.le_refl _) _
          have zb7 : wr.heap.size < V.heap.size ∧ V.heap.size < Wz.heap.size := ⟨zT6, by rw [hWz]; simpa using zT7⟩
          have nz := bw_trans hnV BZ
          have M6 := keep BZ T6
          have hownz := hown.kept (w' := Wz) (row := none) ⟨(bw_trans BV BZ).os, (bw_trans BV BZ).tape, (bw_trans BV BZ).output, (bw_trans BV BZ).size, fun j hj _ => (bw_trans BV BZ).block j hj⟩ (Classical.em _)
          have hob : ∀ b, u4.ownBlock = some b → b < wr.heap.size := fun b e => (hown.lt b e).2
          rw [← hWz]
          clear hWz K KB T7 y0 y1 y2 y3 zT7 hS0 BV BZ hnV T6 hown
          generalize V.heap.size = b7 at *
          generalize wr.heap.size = b6 at *
          have zw := nz.size
          obtain ⟨t0, t1⟩ := blk_2 M7
          have hSq := square_small d1x d2x
          obtain ⟨z, hz⟩ : ∃ z, z = dt 0 0 d1x d2x d1x d2x := ⟨_, rfl⟩
          have HZ : Hid (inlP (ptAt l k) (ptAt l (k + 1)) = decide (z = 1)) := by change _ = _; rw [inlP_way, HD.out, hz]
          rw [← hz] at hSq
          clear hz
          by_cases hz1' : z = 1
          case neg =>
            have e1 := hF (stayV_inl (i := k) (by rw [HL.out]; omega) (by rw [HZ.out]; exact decide_eq_false hz1'))
            have z1 : (z != 1) = true := by simpa using hz1'
            have z2 : (z == 1) = false := by simpa using hz1'
            clear hz1'
            go_wp2_with fail
            refine (hSq _ bd1 bd2).mono ?_
            rintro e v8 ⟨rfl, J8⟩
            go_wp2_with fail
            go_ret2
            exact ⟨_, by rw [e1.out.1]; rfl, .inl ⟨e1.out.2, _, _, rfl⟩, bw_trans nz J8⟩
          case pos =>
            have hil : inlP (ptAt l k) (ptAt l (k + 1)) = true := by rw [HZ.out]; exact decide_eq_true hz1'
            subst hz1'
            clear HZ
            go_wp2_with fail
            refine (hSq _ bd1 bd2).mono ?_
            rintro e v8 ⟨rfl, J8⟩
            replace M6 := keep J8 M6
            replace M7 := keep J8 M7
            have hown8 := hownz.kept (w' := v8) (row := none) ⟨J8.os, J8.tape, J8.output, J8.size, fun j hj _ => J8.block j hj⟩ (Classical.em _)
            have n8 := bw_trans nz J8
            have z8 := J8.size
            have zn8 := n8.size
            obtain ⟨c2, c3⟩ := HC.out k (by omega)
            rw [HA.out] at c2 c3
            simp only at c2 c3
            have p2 := (n8.cell (p := ⟨g, off + k * 2, none⟩) hg).trans c2
            have p3 := (n8.cell (p := ⟨g, off + k * 2 + 1, none⟩) hg).trans c3
            clear c2 c3 hownz t0 t1
            obtain ⟨n, hnn⟩ : ∃ n, n = distP (ptAt l k) (ptAt l (k + 1)) := ⟨_, rfl⟩
            obtain ⟨M, hM⟩ : ∃ M, M = (stayL (l.take (k + 1))).length := ⟨_, rfl⟩
            obtain ⟨d, hd⟩ : ∃ d, d = wayP (ptAt l k) (ptAt l (k + 1)) := ⟨_, rfl⟩
            have HD1 : Hid (d.1 = d1x ∧ d.2 = d2x) := by change _ ∧ _; rw [hd, HD.out]; exact ⟨rfl, rfl⟩
            have HD0 : Hid (d = wayP (ptAt l k) (ptAt l (k + 1)) ∧ n = distP (ptAt l k) (ptAt l (k + 1))) := ⟨hd, hnn⟩
            have hok' := HOK.out k (by omega)
            have hoB := HOK.out (k + 1) (by omega)
            have HLEG : Hid (∀ j, j < n → addP (ptAt l k) d j ≠ (bx, b_y)) := fun j hj => by rw [hd, ← HB.out]; exact (leg_at hil (by rw [← hnn]; exact hj)).2
            have HBD : Hid (∀ j, j ≤ n → okP (addP (ptAt l k) d j) = true) := fun j hj => by rw [hd]; exact leg_bd hil hok' hoB (by rw [← hnn]; exact hj)
            have HEND : Hid (addP (ptAt l k) d n = (bx, b_y)) := by change _ = _; rw [hd, hnn, leg_end hil, HB.out]
            have hn9 : n ≤ 9 := by rw [hnn]; exact distP_ok hok' hoB hil
            have HIL : Hid (inlP (ptAt l k) (ptAt l (k + 1)) = true) := hil
            rw [← hM] at hown8 hlen
            have HM : Hid ((stayL (l.take (k + 1))).length = M) := hM.symm
            have hm1 : 1 ≤ M := by
              rw [hM]
              have e0 := stay_mono (t := l) (k := 1) (Nat.le_refl 1) k (by rw [HL.out]; omega)
              rw [stay_take1 (by rw [HL.out]; omega), Nat.add_comm 1 k] at e0
              exact e0
            clear hM hd hnn hil hok' hoB
            go_wp2_with fail
            have zb8 : b6 < v8.heap.size ∧ b7 < v8.heap.size := ⟨blk_lt M6, blk_lt M7⟩
            have hob8 : ∀ b, u4.ownBlock = some b → b ≠ b6 ∧ b ≠ b7 ∧ b ≠ v8.heap.size := fun b e => by have := hob b e; omega
            have M8 : (v8.alloc (.cells #[.int .i64 ax, .int .i64 ay] 42)).heap[v8.heap.size]? = some (.cells #[.int .i64 ax, .int .i64 ay] 42) := heap_new v8 _
            replace M6 := (Below.heap_alloc v8 (.cells #[.int .i64 ax, .int .i64 ay] 42) _ (blk_lt M6)).trans M6
            replace M7 := (Below.heap_alloc v8 (.cells #[.int .i64 ax, .int .i64 ay] 42) _ (blk_lt M7)).trans M7
            go_loopw [4, 8] (fun o q wr => ∃ (j b8 : Nat), q = .pointer (some ⟨b8, 0, none⟩) ∧ j ≤ n ∧ wr.ownsRow w.heap.size 42 2 o (M + j) (ptCells (stayL (l.take (k + 1)) ++ lineL (ptAt l k) d j)) ∧ (∀ b, o.ownBlock = some b → b ≠ b6 ∧ b ≠ b7 ∧ b ≠ b8) ∧ wr.heap[b8]? = some (.cells #[.int .i64 (addP (ptAt l k) d j).1, .int .i64 (addP (ptAt l k) d j).2] 42) ∧ wr.heap[b7]? = some (.cells #[.int .i64 d1x, .int .i64 d2x] 42) ∧ wr.heap[b6]? = some (.cells #[.int .i64 bx, .int .i64 b_y] 42) ∧ (w.heap.size ≤ b8 ∧ b8 ≠ b7 ∧ b8 ≠ b6) ∧ Below w.heap.size w wr) (fun o _ _ => M + n - lenOf o)
            case atStart => exact ⟨0, v8.heap.size, rfl, Nat.zero_le _, by rw [show lineL (ptAt l k) d 0 = [] from rfl, List.append_nil]; exact hown8.alloc _, hob8, by rw [addP_zero, HA.out]; exact M8, M7, M6, ⟨zn8, by omega, by omega⟩, bw_alloc n8 _⟩
            case round =>
              obtain ⟨j, b8, rfl, hj, hown', hob', N8, N7, N6, ⟨hb8a, hb8b, hb8c⟩, nz'⟩ := hrel
              obtain ⟨g2, c2, rfl, _, _⟩ := hown'.form (by omega)
              have ztz := nz'.size
              by_cases hjn : j < n
              case neg =>
                obtain rfl : j = n := by omega
                rw [HEND.out] at N8
                obtain ⟨s1, s2⟩ := blk_2 N8
                obtain ⟨s3, s4⟩ := blk_2 N6
                go_wp2_with fail
                go_roundw
                case rel =>
                  refine ⟨k + 1, by omega, by simp, ?_, ?_, nz'⟩
                  · intro j' hj'
                    rcases Nat.lt_or_ge j' k with h | h
                    · exact HIN.out j' h
                    · obtain rfl : j' = k := (by omega)
                      exact HIL.out
                  · have es : stayL (l.take (k + 1 + 1)) = stayL (l.take (k + 1)) ++ lineL (ptAt l k) d j := by
                      rw [stay_take (by rw [HL.out]; omega), HD0.out.1, HD0.out.2]; rfl
                    rw [es, List.length_append, lineL_len, HM.out]
                    exact hown'
                case measure => simp [intOf]; omega
              case pos =>
                obtain ⟨ux, hux⟩ : ∃ ux, ux = (addP (ptAt l k) d j).1 := ⟨_, rfl⟩
                obtain ⟨uy, huy⟩ : ∃ uy, uy = (addP (ptAt l k) d j).2 := ⟨_, rfl⟩
                have HU : Hid (addP (ptAt l k) d j = (ux, uy)) := by change _ = _; rw [hux, huy]
                have hne := HLEG.out j hjn
                have hbu := HBD.out j (by omega)
                rw [HU.out] at hne hbu
                rw [← hux, ← huy] at N8
                have hbu := (ptB_iff _ _).1 hbu
                simp only at hbu
                obtain ⟨a0, a1, a2, a3⟩ := hbu
                have k3 : IntKind.i64.wrap (ux + d1x) = ux + d1x := wrap_small (by omega) (by omega)
                have k4 : IntKind.i64.wrap (uy + d2x) = uy + d2x := wrap_small (by omega) (by omega)
                clear hux huy
                obtain ⟨s1, s2, s5, s6⟩ := blk2 N8
                obtain ⟨s3, s4⟩ := blk_2 N6
                obtain ⟨s7, s8⟩ := blk_2 N7
                have hcase : (ux = bx ∧ ¬ uy = b_y) ∨ ¬ ux = bx := by
                  by_cases h : ux = bx
                  · exact .inl ⟨h, fun h' => hne (by rw [h, h'])⟩
                  · exact .inr h
                obtain ⟨Wf, hWf⟩ : ∃ Wf, Wf = (wr.setCell ⟨b8, 0, none⟩ (.int .i64 (ux + d1x))).setCell ⟨b8, 1, none⟩ (.int .i64 (uy + d2x)) := ⟨_, rfl⟩
                have F8 : Wf.heap[b8]? = some (.cells #[.int .i64 (ux+d1x), .int .i64 (uy+d2x)] 42) := by rw [hWf, setCell_row (setCell_row N8 _) _]; rfl
                have F7 : Wf.heap[b7]? = some (.cells #[.int .i64 d1x, .int .i64 d2x] 42) := by rw [hWf]; exact set_oth (set_oth N7 (Ne.symm hb8b)) (Ne.symm hb8b)
                have F6 : Wf.heap[b6]? = some (.cells #[.int .i64 bx, .int .i64 b_y] 42) := by rw [hWf]; exact set_oth (set_oth N6 (Ne.symm hb8c)) (Ne.symm hb8c)
                have Gf : wr.grownBy Wf (some b8) := by
                  rw [hWf]
                  refine ⟨rfl, rfl, rfl, by simp, fun q hq hqne => ?_⟩
                  have hkne : q ≠ b8 := fun e => hqne (by rw [e])
                  rw [Below.heap_setCell _ _ _ _ (by show q ≠ b8; exact hkne), Below.heap_setCell _ _ _ _ (by show q ≠ b8; exact hkne)]
                obtain ⟨ho6, ho7, ho8⟩ := hob' g2 rfl
                have hownf := hown'.kept Gf (.inr (fun e => ho8 (Option.some.inj e)))
                have nf : Below w.heap.size w Wf := by rw [hWf]; exact bw_set (bw_set nz' hb8a _) hb8a _
                have zf := nf.size
                have zF8 := blk_lt F8
                have zF7 := blk_lt F7
                have zF6 := blk_lt F6
                have HS : Hid (addP (ptAt l k) d (j + 1) = (ux + d1x, uy + d2x)) := by
                  change _ = _
                  rw [← addP_one, HU.out, HD1.out.1, HD1.out.2]
                obtain ⟨p0, p1⟩ := blk_2 F8
                clear Gf hne
                rcases hcase with ⟨hcx, hcy⟩ | hcx
                · have x1 : (ux == bx) = true := by simpa using hcx
                  have x2 : (ux = bx) = True := by simpa using hcx
                  have x3 : (ux != bx) = false := by unfold bne; rw [x1]; rfl
                  have x4 : (uy == b_y) = false := by simpa using hcy
                  have x5 : (uy = b_y) = False := by simpa using hcy
                  have x6 : (uy != b_y) = true := by unfold bne; rw [x4]; rfl
                  clear hcx hcy
                  go_upto_region 13 with fail
                  rw [← hWf]
                  clear hWf s1 s2 s3 s4 s5 s6 s7 s8 N8 N7 N6
                  go_wp2_with (at_builtin; refine wpList_append_lies _ rfl _ _ _ rfl w.heap.size 42 i0 _ 2 16 Tryd.underlying23 hi0 hz0 hz1 hz2 rfl (by omega) _ _ _ rfl (hownf.alloc _) ⟨Wf.heap.size, 0, none⟩ 1 1 [.int .i64 (ux + d1x), .int .i64 (uy + d2x)] rfl rfl (World.news_of_block (cs := #[.int .i64 (ux + d1x), .int .i64 (uy + d2x)]) (t := 42) (fr := (0, 0)) (heap_alloc_new Wf _)) (by simp [Value.oneCell']) (by omega) (by simp [maxLen]; omega) (by omega) (by simp; omega) (Wf.heap.size + 1) (by simp) ?_; intro gg cap' w8 hown1 hgrow hat hlt1; have keepBlk : ∀ b o, Wf.heap[b]? = some o → b ≠ g2 → w8.heap[b]? = some o := fun b o hb hbn => (hgrow.block b (by have := blk_lt hb; simp; omega) (fun e => hbn (Option.some.inj e))).trans ((Below.heap_alloc _ _ _ (blk_lt hb)).trans hb); obtain ⟨r0, r1⟩ := blk_2 (keepBlk _ _ F8 (Ne.symm ho8)); have zw8 := hgrow.size; rw [World.size_alloc] at zw8)
                  go_roundw
                  case rel =>
                    refine ⟨j + 1, w8.heap.size, rfl, by omega, ?_, ?_, ?_, ?_, ?_, ⟨by omega, by omega, by omega⟩, bw_alloc ((nf.alloc nf.size _).grown hgrow (by simp; omega) (fun q e => (hownf.lt q e).1)) _⟩
                    · have e1 : ptCells (stayL (l.take (k + 1)) ++ lineL (ptAt l k) d (j + 1)) = ptCells (stayL (l.take (k + 1)) ++ lineL (ptAt l k) d j) ++ [.int .i64 (ux + d1x), .int .i64 (uy + d2x)] := by
                        rw [lineL_snoc, HS.out, ← List.append_assoc, ptCells_snoc]
                      rw [e1]
                      exact hown1.alloc _
                    · intro b e
                      obtain rfl : gg = b := Option.some.inj e
                      refine ⟨?_, ?_, by omega⟩
                      · rcases hat with h | h
                        · obtain rfl : g2 = gg := Option.some.inj h
                          exact ho6
                        · omega
                      · rcases hat with h | h
                        · obtain rfl : g2 = gg := Option.some.inj h
                          exact ho7
                        · omega
                    · rw [HS.out]; exact heap_new w8 _
                    · exact (Below.heap_alloc w8 _ _ (blk_lt (keepBlk _ _ F7 (Ne.symm ho7)))).trans (keepBlk _ _ F7 (Ne.symm ho7))
                    · exact (Below.heap_alloc w8 _ _ (blk_lt (keepBlk _ _ F6 (Ne.symm ho6)))).trans (keepBlk _ _ F6 (Ne.symm ho6))
                  case measure => simp [lenOf]; omega
                · have x1 : (ux == bx) = false := by simpa using hcx
                  have x2 : (ux = bx) = False := by simpa using hcx
                  have x3 : (ux != bx) = true := by unfold bne; rw [x1]; rfl
                  clear hcx
                  go_upto_region 13 with fail
                  rw [← hWf]
                  clear hWf s1 s2 s3 s4 s5 s6 s7 s8 N8 N7 N6
                  go_wp2_with (at_builtin; refine wpList_append_lies _ rfl _ _ _ rfl w.heap.size 42 i0 _ 2 16 Tryd.underlying23 hi0 hz0 hz1 hz2 rfl (by omega) _ _ _ rfl (hownf.alloc _) ⟨Wf.heap.size, 0, none⟩ 1 1 [.int .i64 (ux + d1x), .int .i64 (uy + d2x)] rfl rfl (World.news_of_block (cs := #[.int .i64 (ux + d1x), .int .i64 (uy + d2x)]) (t := 42) (fr := (0, 0)) (heap_alloc_new Wf _)) (by simp [Value.oneCell']) (by omega) (by simp [maxLen]; omega) (by omega) (by simp; omega) (Wf.heap.size + 1) (by simp) ?_; intro gg cap' w8 hown1 hgrow hat hlt1; have keepBlk : ∀ b o, Wf.heap[b]? = some o → b ≠ g2 → w8.heap[b]? = some o := fun b o hb hbn => (hgrow.block b (by have := blk_lt hb; simp; omega) (fun e => hbn (Option.some.inj e))).trans ((Below.heap_alloc _ _ _ (blk_lt hb)).trans hb); obtain ⟨r0, r1⟩ := blk_2 (keepBlk _ _ F8 (Ne.symm ho8)); have zw8 := hgrow.size; rw [World.size_alloc] at zw8)
                  go_roundw
                  case rel =>
                    refine ⟨j + 1, w8.heap.size, rfl, by omega, ?_, ?_, ?_, ?_, ?_, ⟨by omega, by omega, by omega⟩, bw_alloc ((nf.alloc nf.size _).grown hgrow (by simp; omega) (fun q e => (hownf.lt q e).1)) _⟩
                    · have e1 : ptCells (stayL (l.take (k + 1)) ++ lineL (ptAt l k) d (j + 1)) = ptCells (stayL (l.take (k + 1)) ++ lineL (ptAt l k) d j) ++ [.int .i64 (ux + d1x), .int .i64 (uy + d2x)] := by
                        rw [lineL_snoc, HS.out, ← List.append_assoc, ptCells_snoc]
                      rw [e1]
                      exact hown1.alloc _
                    · intro b e
                      obtain rfl : gg = b := Option.some.inj e
                      refine ⟨?_, ?_, by omega⟩
                      · rcases hat with h | h
                        · obtain rfl : g2 = gg := Option.some.inj h
                          exact ho6
                        · omega
                      · rcases hat with h | h
                        · obtain rfl : g2 = gg := Option.some.inj h
                          exact ho7
                        · omega
                    · rw [HS.out]; exact heap_new w8 _
                    · exact (Below.heap_alloc w8 _ _ (blk_lt (keepBlk _ _ F7 (Ne.symm ho7)))).trans (keepBlk _ _ F7 (Ne.symm ho7))
                    · exact (Below.heap_alloc w8 _ _ (blk_lt (keepBlk _ _ F6 (Ne.symm ho6)))).trans (keepBlk _ _ F6 (Ne.symm ho6))
                  case measure => simp [lenOf]; omega
end Go.Proofs.YtfdnadiliedikaaDoor
