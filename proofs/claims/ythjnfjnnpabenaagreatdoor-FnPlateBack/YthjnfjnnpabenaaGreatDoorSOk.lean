/-
  OUR OWN TEXT. The specification's LoopOk, by contract, at every points.
-/
import Derived.Test.YthjnfjnnpabenaaGreatDoorSEdge
import Derived.Test.YthjnfjnnpabenaaGreatDoorEdgeS
import Derived.Test.YthjnfjnnpabenaaGreatDoorSHas
import Derived.Test.YthjnfjnnpabenaaGreatDoorRoundQ
namespace Go.Proofs.YthjnfjnnpabenaaGreatDoor
open Go.RowKit Go.Sort

theorem sSeg_raw (a b : P2) (w : World) : Calls Tryz.prog 61 #[.agg #[.int .i64 a.1, .int .i64 a.2, .int .i64 b.1, .int .i64 b.2]] w fun e w' => e = .returned (.bool (sgP a b)) ∧ Below w.heap.size w w' := sSeg_any _ _ _ _ w
theorem sHas_raw (a b p : P2) (h : sgP a b = true) (hp : ptB p.1 p.2 = true) (w : World) : Calls Tryz.prog 62 #[.agg #[.int .i64 a.1, .int .i64 a.2, .int .i64 b.1, .int .i64 b.2], .agg #[.int .i64 p.1, .int .i64 p.2]] w fun e w' => e = .returned (.bool (hasP a b p)) ∧ Below w.heap.size w w' := sHas_ok _ _ _ _ _ _ w h hp
theorem sMeet_raw (a b c d : P2) (h : sgP a b = true) (h' : sgP c d = true) (w : World) : Calls Tryz.prog 63 #[.agg #[.int .i64 a.1, .int .i64 a.2, .int .i64 b.1, .int .i64 b.2], .agg #[.int .i64 c.1, .int .i64 c.2, .int .i64 d.1, .int .i64 d.2]] w fun e w' => e = .returned (.bool (meetP a b c d)) ∧ Below w.heap.size w w' := sMeet_ok _ _ _ _ _ _ _ _ w h h'
theorem okS_len {pts : List P2} (h : ¬ (3 ≤ pts.length ∧ pts.length ≤ 8)) : okS pts = false := by unfold okS; rw [decide_eq_false h]; rfl
theorem okS_seg {pts : List P2} {i : Nat} (hi : i < pts.length) (h : sgE pts i = false) : okS pts = false := by
  unfold okS
  have : (List.range pts.length).all (sgE pts) = false := by rw [List.all_eq_false]; exact ⟨i, List.mem_range.2 hi, by rw [h]; simp⟩
  rw [this]; simp
theorem okS_row {pts : List P2} {i : Nat} (hi : i < pts.length) (h : rowS pts i = false) : okS pts = false := by
  unfold okS
  have : (List.range pts.length).all (rowS pts) = false := by rw [List.all_eq_false]; exact ⟨i, List.mem_range.2 hi, by rw [h]; simp⟩
  rw [this]; simp
theorem okS_all {pts : List P2} (h3 : 3 ≤ pts.length) (h8 : pts.length ≤ 8) (h : ∀ i, i < pts.length → sgE pts i = true) (h' : ∀ i, i < pts.length → rowS pts i = true) : okS pts = true := by
  unfold okS
  rw [Bool.and_eq_true, Bool.and_eq_true, decide_eq_true_eq, List.all_eq_true, List.all_eq_true]
  exact ⟨⟨⟨h3, h8⟩, fun i hi => h i (List.mem_range.1 hi)⟩, fun i hi => h' i (List.mem_range.1 hi)⟩
theorem rowS_all {pts : List P2} {i : Nat} (h : backE pts i (nxt pts i) = false) (h' : ∀ k, k < pts.length → pairS pts i k = true) : rowS pts i = true := by
  unfold rowS; rw [h, Bool.and_eq_true, List.all_eq_true]; exact ⟨rfl, fun k hk => h' k (List.mem_range.1 hk)⟩
theorem rowS_back {pts : List P2} {i : Nat} (h : backE pts i (nxt pts i) = true) : rowS pts i = false := by unfold rowS; rw [h]; rfl
theorem rowS_pair {pts : List P2} {i k : Nat} (hk : k < pts.length) (h : pairS pts i k = false) : rowS pts i = false := by
  unfold rowS; rw [Bool.and_eq_false_iff]; right; rw [List.all_eq_false]; exact ⟨k, List.mem_range.2 hk, by rw [h]; simp⟩
theorem regrow4 {W : World} {g j : Nat} {x0 x1 x2 x3 : Value} (h : W.cell? ⟨g, j * 4, none⟩ = some x0 ∧ W.cell? ⟨g, j * 4 + 1, none⟩ = some x1 ∧ W.cell? ⟨g, j * 4 + 2, none⟩ = some x2 ∧ W.cell? ⟨g, j * 4 + 3, none⟩ = some x3) :
    (∀ d os, (grow (redrawn W d) os).cell? ⟨g, j * 4, none⟩ = some x0) ∧ (∀ d os, (grow (redrawn W d) os).cell? ⟨g, j * 4 + 1, none⟩ = some x1) ∧ (∀ d os, (grow (redrawn W d) os).cell? ⟨g, j * 4 + 2, none⟩ = some x2) ∧ (∀ d os, (grow (redrawn W d) os).cell? ⟨g, j * 4 + 3, none⟩ = some x3) :=
  ⟨cell_regrown h.1, cell_regrown h.2.1, cell_regrown h.2.2.1, cell_regrown h.2.2.2⟩

set_option maxRecDepth 100000 in
set_option maxHeartbeats 8000000 in
theorem sOk_any (a : Option Addr) (len cap : Nat) (pts : List P2) (hlen : len ≤ 1048576) (w : World) (hP : Pts w.heap.size w a len pts) :
    Calls Tryz.prog 41 #[.slice a len cap] w fun e w' => e = .returned (.bool (okV pts)) ∧ Below w.heap.size w w' := by
  rw [← okS_eq]
  obtain ⟨hl, hP⟩ := hP
  by_cases h38 : 3 ≤ len ∧ len ≤ 8
  case neg =>
    have e1 : Hid (okS pts = false) := okS_len (by rw [hl]; exact h38)
    have e2 : inR (len : Int) 3 8 = false := by rw [← Bool.not_eq_true, inR_iff]; omega
    clear hP hl
    go_enter Tryz.func41, Tryz.ntmps41
    go_wp2_with (go_at_call 40; refine (in_any _ _ _ _).mono ?_; rw [e2]; rintro e w' ⟨rfl, rfl⟩)
    go_ret
    exact ⟨ret_bool e1.out.symm, (by repeat (first | exact bw_refl _ | assumption | apply bw_drewN | apply bw_drew | apply bw_alloc | refine bw_set ?_ (by simp) _))⟩
  obtain ⟨h3, h8⟩ := h38
  have e2 : inR (len : Int) 3 8 = true := by rw [inR_iff]; omega
  rcases hP with h0 | ⟨b, off, rfl, hb, hc⟩
  · omega
  have hcall := sEdges_ok b off len cap pts w hl (by omega) hlen hb hc
  clear hc
  have hl' : Hid (pts.length = len) := hl
  clear hl
  go_enter Tryz.func41, Tryz.ntmps41
  go_wp2_with (go_at_call 40; refine (in_any _ _ _ _).mono ?_; rw [e2]; rintro e w' ⟨rfl, rfl⟩)
  refine hcall.mono ?_
  rintro e w1 ⟨v, rfl, hown, J⟩
  have hR : ∃ g cap', v = .slice (some ⟨g, 0, none⟩) len cap' ∧ g < w1.heap.size ∧ SegRow w1 g len pts := by
    have hown' := hown
    rcases hown.2 with ⟨_, h0⟩ | ⟨g, cap', cur, rfl, hg1, hg2, _⟩
    · omega
    · exact ⟨g, cap', rfl, (Array.getElem?_eq_some_iff.1 hg2).1, SegRow.of_owns hown'⟩
  obtain ⟨g, cap', rfl, hg, hS⟩ := hR
  clear hown hcall
  have hz : (len = 0) = False := by simp; omega
  go_wp2_with fail
  go_loopw [5] (fun i wr => ∃ k : Nat, k ≤ len ∧ i = .int .i64 k ∧ (∀ j, j < k → sgE pts j = true) ∧ Below w1.heap.size w1 wr) (fun i _ => len - (intOf i).toNat)
  case atStart => exact ⟨0, Nat.zero_le _, rfl, fun j hj => by omega, bw_refl _⟩
  case round =>
    obtain ⟨k, hk, rfl, hall, hnx⟩ := hrel
    by_cases hlt : k < len
    · obtain ⟨d0, d1, d2, d3⟩ := (hS.below hnx hg) k hlt
      cases hs : sgE pts k
      · have e1 : Hid (okS pts = false) := okS_seg (by rw [hl'.out]; exact hlt) hs
        unfold sgE at hs
        go_wp2_with (go_at_call 61; refine (sSeg_raw _ _ _).mono ?_; rw [hs]; rintro e w2 ⟨rfl, J2⟩)
        go_ret
        exact ⟨ret_bool e1.out.symm, bw_trans (bw_trans J hnx) J2⟩
      · have hs' := hs
        unfold sgE at hs'
        go_wp2_with (go_at_call 61; refine (sSeg_raw _ _ _).mono ?_; rw [hs']; rintro e w2 ⟨rfl, J2⟩)
        go_roundw
        case rel => exact ⟨k + 1, by omega, by simp, fun j hj => by rcases Nat.lt_or_ge j k with h | h; exact hall j h; obtain rfl : j = k := (by omega); exact hs, bw_trans hnx J2⟩
        case measure => simp [intOf]; omega
    · obtain rfl : k = len := by omega
      have hsg := hall
      clear hall
      go_wp2_with fail
      go_loopw [6] (fun i wr => ∃ q : Nat, q ≤ k ∧ i = .int .i64 q ∧ (∀ j, j < q → rowS pts j = true) ∧ Below w1.heap.size w1 wr) (fun i _ => k - (intOf i).toNat)
      case atStart => exact ⟨0, Nat.zero_le _, rfl, fun j hj => by omega, hnx⟩
      case round =>
        obtain ⟨q, hq, rfl, hrow, hnq⟩ := hrel
        by_cases hlt2 : q < k
        · have hm : nxt pts q < k := by have := nxt_lt (l := pts) (i := q) (by rw [hl'.out]; omega); rwa [hl'.out] at this
          have hm2 : nxt pts (nxt pts q) < k := by have := nxt_lt (l := pts) (i := nxt pts q) (by rw [hl'.out]; omega); rwa [hl'.out] at this
          have s0 : sgP (ptAt pts q) (ptAt pts (nxt pts q)) = true := hsg q hlt2
          have s1 : sgP (ptAt pts (nxt pts q)) (ptAt pts (nxt pts (nxt pts q))) = true := hsg _ hm
          have q1 : IntKind.i64.wrap ((q : Int) + 1) = (q : Int) + 1 := wrap_small (by omega) (by omega)
          have q2 : ((q : Int) + 1).tmod (k : Int) = (nxt pts q : Int) := by
            rw [Int.tmod_eq_emod_of_nonneg (by omega)]; unfold nxt; rw [hl'.out]; simp
          have q3 : IntKind.i64.wrap ((q : Int) + 2) = (q : Int) + 2 := wrap_small (by omega) (by omega)
          have i0 : (0 : Int) ≤ (q : Int) := Int.natCast_nonneg _
          have i1 : (q : Int) < (k : Int) := by omega
          have i2 : (0 : Int) ≤ (nxt pts q : Int) := Int.natCast_nonneg _
          have i3 : (nxt pts q : Int) < (k : Int) := by omega
          have hSq := hS.below hnq hg
          obtain ⟨d0, d1, d2, d3⟩ := regrow4 (hSq q hlt2)
          obtain ⟨f0, f1, f2, f3⟩ := regrow4 (hSq _ hm)
          cases hb1 : hasP (ptAt pts q) (ptAt pts (nxt pts q)) (ptAt pts (nxt pts (nxt pts q)))
          case true =>
            have e1 : Hid (okS pts = false) := okS_row (by rw [hl'.out]; exact hlt2) (rowS_back (by unfold backE; rw [hb1]; rfl))
            have X1 : Hid (∀ w, Calls Tryz.prog 62 #[.agg #[.int .i64 (ptAt pts q).1, .int .i64 (ptAt pts q).2, .int .i64 (ptAt pts (nxt pts q)).1, .int .i64 (ptAt pts (nxt pts q)).2], .agg #[.int .i64 (ptAt pts (nxt pts (nxt pts q))).1, .int .i64 (ptAt pts (nxt pts (nxt pts q))).2]] w fun e w' => e = .returned (.bool true) ∧ Below w.heap.size w w') := fun w => by have := sHas_raw _ _ _ s0 (sgP_pt s1).2 w; rwa [hb1] at this
            go_wp2_with fail
            refine wp_region_quiet_below (by kernel_rfl) (by kernel_rfl) ?_
            repeat (first | go_big_quiet_step (first | (go_at_call 62; with_reducible exact Calls.regrown_of (X1.out _))))
            refine wpQuiet_nil ?_
            intro _ hw'
            obtain ⟨⟨dq, osq⟩, hw''⟩ := hw'
            subst hw''
            have JQ := below_regrown wr dq osq
            generalize grow (redrawn wr dq) osq = w2 at JQ ⊢
            go_wp2_with fail
            go_ret
            exact ⟨ret_bool e1.out.symm, bw_trans (bw_trans J hnq) JQ⟩
          case false =>
            have X1 : Hid (∀ w, Calls Tryz.prog 62 #[.agg #[.int .i64 (ptAt pts q).1, .int .i64 (ptAt pts q).2, .int .i64 (ptAt pts (nxt pts q)).1, .int .i64 (ptAt pts (nxt pts q)).2], .agg #[.int .i64 (ptAt pts (nxt pts (nxt pts q))).1, .int .i64 (ptAt pts (nxt pts (nxt pts q))).2]] w fun e w' => e = .returned (.bool false) ∧ Below w.heap.size w w') := fun w => by have := sHas_raw _ _ _ s0 (sgP_pt s1).2 w; rwa [hb1] at this
            cases hb2 : hasP (ptAt pts (nxt pts q)) (ptAt pts (nxt pts (nxt pts q))) (ptAt pts q)
            case true =>
              have e1 : Hid (okS pts = false) := okS_row (by rw [hl'.out]; exact hlt2) (rowS_back (by unfold backE; rw [hb1, hb2]; rfl))
              have X2 : Hid (∀ w, Calls Tryz.prog 62 #[.agg #[.int .i64 (ptAt pts (nxt pts q)).1, .int .i64 (ptAt pts (nxt pts q)).2, .int .i64 (ptAt pts (nxt pts (nxt pts q))).1, .int .i64 (ptAt pts (nxt pts (nxt pts q))).2], .agg #[.int .i64 (ptAt pts q).1, .int .i64 (ptAt pts q).2]] w fun e w' => e = .returned (.bool true) ∧ Below w.heap.size w w') := fun w => by have := sHas_raw _ _ _ s1 (sgP_pt s0).1 w; rwa [hb2] at this
              go_wp2_with fail
              refine wp_region_quiet_below (by kernel_rfl) (by kernel_rfl) ?_
              repeat (first | go_big_quiet_step (first | (go_at_call 62; with_reducible exact Calls.regrown_of (X1.out _)) | (go_at_call 62; with_reducible exact Calls.regrown_of (X2.out _))))
              refine wpQuiet_nil ?_
              intro _ hw'
              obtain ⟨⟨dq, osq⟩, hw''⟩ := hw'
              subst hw''
              have JQ := below_regrown wr dq osq
              generalize grow (redrawn wr dq) osq = w2 at JQ ⊢
              go_wp2_with fail
              go_ret
              exact ⟨ret_bool e1.out.symm, bw_trans (bw_trans J hnq) JQ⟩
            case false =>
              have hbk : Hid (backE pts q (nxt pts q) = false) := by change _ = _; unfold backE; rw [hb1, hb2]; rfl
              have X2 : Hid (∀ w, Calls Tryz.prog 62 #[.agg #[.int .i64 (ptAt pts (nxt pts q)).1, .int .i64 (ptAt pts (nxt pts q)).2, .int .i64 (ptAt pts (nxt pts (nxt pts q))).1, .int .i64 (ptAt pts (nxt pts (nxt pts q))).2], .agg #[.int .i64 (ptAt pts q).1, .int .i64 (ptAt pts q).2]] w fun e w' => e = .returned (.bool false) ∧ Below w.heap.size w w') := fun w => by have := sHas_raw _ _ _ s1 (sgP_pt s0).1 w; rwa [hb2] at this
              go_wp2_with fail
              refine wp_region_quiet_below (by kernel_rfl) (by kernel_rfl) ?_
              repeat (first | go_big_quiet_step (first | (go_at_call 62; with_reducible exact Calls.regrown_of (X1.out _)) | (go_at_call 62; with_reducible exact Calls.regrown_of (X2.out _))))
              refine wpQuiet_nil ?_
              intro _ hw'
              obtain ⟨⟨dq, osq⟩, hw''⟩ := hw'
              subst hw''
              have JQ := below_regrown wr dq osq
              generalize grow (redrawn wr dq) osq = w2 at JQ ⊢
              have hn2 := bw_trans hnq JQ
              clear JQ d0 d1 d2 d3 f0 f1 f2 f3 hb1 hb2 X1 X2
              go_wp2_with fail
              go_loopw [7] (fun i wr => ∃ t : Nat, q + 2 ≤ t ∧ t ≤ k + 2 ∧ i = .int .i64 t ∧ (∀ j, j < t → j < k → pairS pts q j = true) ∧ Below w1.heap.size w1 wr) (fun i _ => k + 2 - (intOf i).toNat)
              case atStart => exact ⟨q + 2, Nat.le_refl _, by omega, by simp, fun j hj _ => by unfold pairS; rw [decide_eq_true hj]; rfl, hn2⟩
              case round =>
                obtain ⟨t, ht, ht2, rfl, hpair, hnt⟩ := hrel
                by_cases hlt3 : t < k
                · have s2 : sgP (ptAt pts t) (ptAt pts (nxt pts t)) = true := hsg t hlt3
                  have t1 : IntKind.i64.wrap ((t : Int) + 1) = (t : Int) + 1 := wrap_small (by omega) (by omega)
                  have t2 : ((t : Int) + 1).tmod (k : Int) = (nxt pts t : Int) := by
                    rw [Int.tmod_eq_emod_of_nonneg (by omega)]; unfold nxt; rw [hl'.out]; simp
                  have i4 : (0 : Int) ≤ (t : Int) := Int.natCast_nonneg _
                  have i5 : (t : Int) < (k : Int) := by omega
                  have hSt := hS.below hnt hg
                  obtain ⟨d0, d1, d2, d3⟩ := regrow4 (hSt q hlt2)
                  obtain ⟨f0, f1, f2, f3⟩ := regrow4 (hSt t hlt3)
                  have step : ∀ {X : World}, Below w1.heap.size w1 X → pairS pts q t = true → ∃ t' : Nat, q + 2 ≤ t' ∧ t' ≤ k + 2 ∧ Value.int .i64 ((t : Int) + 1) = .int .i64 t' ∧ (∀ j, j < t' → j < k → pairS pts q j = true) ∧ Below w1.heap.size w1 X :=
                    fun hX hp => ⟨t + 1, by omega, by omega, by simp, fun j hj hjk => by rcases Nat.lt_or_ge j t with h | h; exact hpair j h hjk; obtain rfl : j = t := (by omega); exact hp, hX⟩
                  by_cases hnx3 : nxt pts t = q
                  · have e3 : ((nxt pts t : Int) == (q : Int)) = true := by rw [hnx3]; simp
                    have e4 : ((nxt pts t : Int) != (q : Int)) = false := by rw [hnx3]; simp
                    have hp : Hid (pairS pts q t = true) := by change _ = _; unfold pairS; rw [decide_eq_true hnx3]; simp
                    clear hnx3
                    go_wp2_with fail
                    refine wp_region_quiet_below (by kernel_rfl) (by kernel_rfl) ?_
                    repeat (first | go_big_quiet_step (fail))
                    refine wpQuiet_nil ?_
                    intro _ hw'
                    obtain ⟨⟨dq, osq⟩, hw''⟩ := hw'
                    subst hw''
                    have JQ := below_regrown wr dq osq
                    generalize grow (redrawn wr dq) osq = w3 at JQ ⊢
                    go_wp2_with fail
                    go_roundw
                    case rel => exact step (bw_trans hnt JQ) hp.out
                    case measure => simp [intOf]; omega
                  · have e3 : ((nxt pts t : Int) == (q : Int)) = false := by rw [beq_eq_false_iff_ne]; omega
                    have e4 : ((nxt pts t : Int) != (q : Int)) = true := by simp; omega
                    cases hme : meetP (ptAt pts q) (ptAt pts (nxt pts q)) (ptAt pts t) (ptAt pts (nxt pts t))
                    · have hp : Hid (pairS pts q t = true) := by change _ = _; unfold pairS meetE; rw [hme]; simp
                      have X1 : Hid (∀ w, Calls Tryz.prog 63 #[.agg #[.int .i64 (ptAt pts q).1, .int .i64 (ptAt pts q).2, .int .i64 (ptAt pts (nxt pts q)).1, .int .i64 (ptAt pts (nxt pts q)).2], .agg #[.int .i64 (ptAt pts t).1, .int .i64 (ptAt pts t).2, .int .i64 (ptAt pts (nxt pts t)).1, .int .i64 (ptAt pts (nxt pts t)).2]] w fun e w' => e = .returned (.bool false) ∧ Below w.heap.size w w') := fun w => by have := sMeet_raw _ _ _ _ s0 s2 w; rwa [hme] at this
                      go_wp2_with fail
                      refine wp_region_quiet_below (by kernel_rfl) (by kernel_rfl) ?_
                      repeat (first | go_big_quiet_step (first | (go_at_call 63; with_reducible exact Calls.regrown_of (X1.out _))))
                      refine wpQuiet_nil ?_
                      intro _ hw'
                      obtain ⟨⟨dq, osq⟩, hw''⟩ := hw'
                      subst hw''
                      have JQ := below_regrown wr dq osq
                      generalize grow (redrawn wr dq) osq = w3 at JQ ⊢
                      go_wp2_with fail
                      go_roundw
                      case rel => exact step (bw_trans hnt JQ) hp.out
                      case measure => simp [intOf]; omega
                    · have e1 : Hid (okS pts = false) := okS_row (by rw [hl'.out]; exact hlt2) (rowS_pair (k := t) (by rw [hl'.out]; exact hlt3) (by unfold pairS meetE; rw [hme, decide_eq_false hnx3, decide_eq_false (by omega)]; rfl))
                      have X1 : Hid (∀ w, Calls Tryz.prog 63 #[.agg #[.int .i64 (ptAt pts q).1, .int .i64 (ptAt pts q).2, .int .i64 (ptAt pts (nxt pts q)).1, .int .i64 (ptAt pts (nxt pts q)).2], .agg #[.int .i64 (ptAt pts t).1, .int .i64 (ptAt pts t).2, .int .i64 (ptAt pts (nxt pts t)).1, .int .i64 (ptAt pts (nxt pts t)).2]] w fun e w' => e = .returned (.bool true) ∧ Below w.heap.size w w') := fun w => by have := sMeet_raw _ _ _ _ s0 s2 w; rwa [hme] at this
                      go_wp2_with fail
                      refine wp_region_quiet_below (by kernel_rfl) (by kernel_rfl) ?_
                      repeat (first | go_big_quiet_step (first | (go_at_call 63; with_reducible exact Calls.regrown_of (X1.out _))))
                      refine wpQuiet_nil ?_
                      intro _ hw'
                      obtain ⟨⟨dq, osq⟩, hw''⟩ := hw'
                      subst hw''
                      have JQ := below_regrown wr dq osq
                      generalize grow (redrawn wr dq) osq = w3 at JQ ⊢
                      go_wp2_with fail
                      go_ret
                      exact ⟨ret_bool e1.out.symm, bw_trans (bw_trans J hnt) JQ⟩
                · go_wp2_with fail
                  go_roundw
                  case rel => exact ⟨q + 1, by omega, by simp, fun j hj => by rcases Nat.lt_or_ge j q with h | h; exact hrow j h; obtain rfl : j = q := (by omega); exact rowS_all hbk.out (fun k' hk' => hpair k' (by rw [hl'.out] at hk'; omega) (by rw [hl'.out] at hk'; exact hk')), hnt⟩
                  case measure => simp [intOf]; omega
        · obtain rfl : q = k := by omega
          have e1 : Hid (okS pts = true) := okS_all (by rw [hl'.out]; exact h3) (by rw [hl'.out]; exact h8) (fun i hi => hsg i (by rwa [hl'.out] at hi)) (fun i hi => hrow i (by rwa [hl'.out] at hi))
          go_wp2_with fail
          go_ret
          exact ⟨ret_bool e1.out.symm, bw_trans J hnq⟩
end Go.Proofs.YthjnfjnnpabenaaGreatDoor
