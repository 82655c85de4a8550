/-
  OUR OWN TEXT. The specification's LoopIn, by contract, at every points.
-/
import Derived.Test.YtfnhbdanfnpdeaaDoorSSize
import Derived.Test.YtfnhbdanfnpdeaaDoorPass
namespace Go.Proofs.YtfnhbdanfnpdeaaDoor
open Go.RowKit Go.Sort

theorem sPt_raw (p : P2) (w : World) : Calls Tryd.prog 25 #[.agg #[.int .i64 p.1, .int .i64 p.2]] w fun e w' => e = .returned (.bool (ptB p.1 p.2)) ∧ Below w.heap.size w w' := sPt_any _ _ w
theorem inI_on {pts : List P2} {p : P2} {i : Nat} (hi : i < pts.length) (h : onE pts p i = true) : inI pts p = 0 := by
  unfold inI; rw [if_pos]; rw [List.any_eq_true]; exact ⟨i, List.mem_range.2 hi, h⟩
theorem inI_off {pts : List P2} {p : P2} (h : ∀ i, i < pts.length → onE pts p i = false) : inI pts p = whereK pts p pts.length := by
  unfold inI; rw [if_neg]; rw [List.any_eq_true]; rintro ⟨i, hi, e⟩; rw [h i (List.mem_range.1 hi)] at e; cases e
theorem regrow_none {W W' : World} {g j : Nat} {x0 x1 x2 x3 : Value} (h : W.cell? ⟨g, j * 4, none⟩ = some x0 ∧ W.cell? ⟨g, j * 4 + 1, none⟩ = some x1 ∧ W.cell? ⟨g, j * 4 + 2, none⟩ = some x2 ∧ W.cell? ⟨g, j * 4 + 3, none⟩ = some x3) (J : Below W.heap.size W W') (hg : g < W.heap.size) :
    W'.cell? ⟨g, j * 4, none⟩ = some x0 ∧ W'.cell? ⟨g, j * 4 + 1, none⟩ = some x1 ∧ W'.cell? ⟨g, j * 4 + 2, none⟩ = some x2 ∧ W'.cell? ⟨g, j * 4 + 3, none⟩ = some x3 :=
  ⟨(J.cell (p := ⟨g, j * 4, none⟩) hg).trans h.1, (J.cell (p := ⟨g, j * 4 + 1, none⟩) hg).trans h.2.1, (J.cell (p := ⟨g, j * 4 + 2, none⟩) hg).trans h.2.2.1, (J.cell (p := ⟨g, j * 4 + 3, none⟩) hg).trans h.2.2.2⟩
set_option maxRecDepth 100000 in
set_option maxHeartbeats 8000000 in
theorem sInI_ok (b off len cap : Nat) (pts : List P2) (p : P2) (hok : okV pts = true) (hp : ptB p.1 p.2 = true) (hl : pts.length = len) (w : World) (hb : b < w.heap.size)
    (hc : ∀ j, j < len → w.cell? ⟨b, off + j * 2, none⟩ = some (.int .i64 (ptAt pts j).1) ∧ w.cell? ⟨b, off + j * 2 + 1, none⟩ = some (.int .i64 (ptAt pts j).2)) :
    Calls Tryd.prog 49 #[.slice (some ⟨b, off, none⟩) len cap, .agg #[.int .i64 p.1, .int .i64 p.2]] w fun e w' => e = .returned (.int .i64 (inI pts p)) ∧ Below w.heap.size w w' := by
  have h3 := ((okV_iff pts).1 hok).lo
  have h8 := ((okV_iff pts).1 hok).hi
  have hS : Hid (∀ i, i < len → sgP (ptAt pts i) (ptAt pts (nxt pts i)) = true) := fun i hi => ((okV_iff pts).1 hok).seg i (by omega)
  have hl8 : 3 ≤ len ∧ len ≤ 8 := by omega
  have hcall := sEdges_ok b off len cap pts (w.alloc (.cells #[.int .i64 p.1, .int .i64 p.2] 46)) hl (by omega) (by omega) (by simp; omega) (fun j hj => by
    have := hc j hj
    exact ⟨(((Below.refl _ w).alloc (Nat.le_refl _) _).cell (p := ⟨b, off + j * 2, none⟩) hb).trans this.1, (((Below.refl _ w).alloc (Nat.le_refl _) _).cell (p := ⟨b, off + j * 2 + 1, none⟩) hb).trans this.2⟩)
  have LP : Lies w.heap.size #[.int .i64 p.1, .int .i64 p.2] 46 (w.alloc (.cells #[.int .i64 p.1, .int .i64 p.2] 46)) := Lies.new w _ _
  have HL : Hid (pts.length = len) := hl
  clear hok h3 h8 hl hc
  go_enter Tryd.func49, Tryd.ntmps49
  go_wp2_with (go_at_call 53; refine hcall.mono ?_; rintro e w1 ⟨v, rfl, hown, J0⟩)
  have hR : ∃ g cap', v = .slice (some ⟨g, 0, none⟩) len cap' ∧ g < w1.heap.size ∧ SegRow w1 g len pts := by
    have hown' := hown
    rcases hown.2 with ⟨_, h0⟩ | ⟨g, cap', cur, rfl, hg1, hg2, _⟩
    · omega
    · exact ⟨g, cap', rfl, (Array.getElem?_eq_some_iff.1 hg2).1, SegRow.of_owns hown'⟩
  obtain ⟨g, cap', rfl, hg, hR⟩ := hR
  replace LP := LP.below J0
  have B1 : Below w.heap.size w w1 := bw_trans (by repeat (first | exact bw_refl _ | assumption | apply bw_drewN | apply bw_drew | apply bw_alloc | refine bw_set ?_ (by simp) _)) J0
  clear hown hcall J0
  go_wp2_with fail
  go_loopw [5, 7] (fun s i wr => ∃ k : Nat, k ≤ len ∧ i = .int .i64 k ∧ s = .int .i64 (whereK pts p k) ∧ (∀ j, j < k → onE pts p j = false) ∧ Below w1.heap.size w1 wr) (fun _ i _ => len - (intOf i).toNat)
  case atStart => exact ⟨0, by omega, rfl, rfl, fun j hj => by omega, bw_refl _⟩
  case round =>
    obtain ⟨k, hk, rfl, rfl, hoff, hnx⟩ := hrel
    by_cases hlt : k < len
    case neg =>
      obtain rfl : k = len := by omega
      have e1 : Hid (inI pts p = whereK pts p k) := by change _ = _; rw [inI_off (by rw [HL.out]; exact hoff), HL.out]
      go_wp2_with fail
      go_ret
      exact ⟨ret_int e1.out.symm, bw_trans B1 hnx⟩
    case pos =>
      have sk := hS.out k hlt
      obtain ⟨pa, pb⟩ := sgP_pt sk
      have i0 : (0 : Int) ≤ (k : Int) := Int.natCast_nonneg _
      have i1 : (k : Int) < (len : Int) := by omega
      have q1 : IntKind.i64.wrap ((k : Int) + 1) = (k : Int) + 1 := wrap_small (by omega) (by omega)
      have hRk := (hR.below hnx hg) k hlt
      obtain ⟨d0, d1, d2, d3⟩ := regrow4 hRk
      have LPk := LP.below hnx
      obtain ⟨u0, u1⟩ := reg_2 LPk
      have wpm := whereK_pm pts p k
      cases hon : onE pts p k
      case true =>
        have e1 : Hid (inI pts p = 0) := inI_on (by rw [HL.out]; exact hlt) hon
        have X1 : Hid (∀ w, Calls Tryd.prog 55 #[.agg #[.int .i64 (ptAt pts k).1, .int .i64 (ptAt pts k).2, .int .i64 (ptAt pts (nxt pts k)).1, .int .i64 (ptAt pts (nxt pts k)).2], .agg #[.int .i64 p.1, .int .i64 p.2]] w fun e w' => e = .returned (.bool true) ∧ Below w.heap.size w w') := fun w => by
          have := sHas_raw _ _ _ sk hp w; unfold onE at hon; rwa [hon] at this
        go_wp2_with fail
        refine wp_region_quiet_below (by kernel_rfl) (by kernel_rfl) ?_
        repeat (first | go_big_quiet_step (first | (go_at_call 55; with_reducible exact Calls.regrown_of (X1.out _))))
        refine wpQuiet_nil ?_
        intro _ hw'
        obtain ⟨⟨dq, osq⟩, hw''⟩ := hw'
        subst hw''
        have J := below_regrown wr dq osq
        generalize grow (redrawn wr dq) osq = w2 at J ⊢
        go_wp2_with fail
        go_ret
        exact ⟨ret_int e1.out.symm, bw_trans (bw_trans B1 hnx) J⟩
      case false =>
        have X1 : Hid (∀ w, Calls Tryd.prog 55 #[.agg #[.int .i64 (ptAt pts k).1, .int .i64 (ptAt pts k).2, .int .i64 (ptAt pts (nxt pts k)).1, .int .i64 (ptAt pts (nxt pts k)).2], .agg #[.int .i64 p.1, .int .i64 p.2]] w fun e w' => e = .returned (.bool false) ∧ Below w.heap.size w w') := fun w => by
          have := sHas_raw _ _ _ sk hp w; unfold onE at hon; rwa [hon] at this
        have step : ∀ (s : Int) (X : World), Below w1.heap.size w1 X → whereK pts p (k + 1) = s → ∃ k' : Nat, k' ≤ len ∧ Value.int .i64 ((k : Int) + 1) = .int .i64 k' ∧ Value.int .i64 s = .int .i64 (whereK pts p k') ∧ (∀ j, j < k' → onE pts p j = false) ∧ Below w1.heap.size w1 X :=
          fun s X hX hs => ⟨k + 1, by omega, by simp, by rw [hs], fun j hj => by rcases Nat.lt_or_ge j k with h | h; exact hoff j h; obtain rfl : j = k := (by omega); exact hon, hX⟩
        have hyes : passP (ptAt pts k) (ptAt pts (nxt pts k)) p = true → Hid (whereK pts p (k + 1) = - whereK pts p k) := fun h => by change _ = _; simp only [whereK]; unfold passE; rw [h]; rfl
        have hno : passP (ptAt pts k) (ptAt pts (nxt pts k)) p = false → Hid (whereK pts p (k + 1) = whereK pts p k) := fun h => by change _ = _; simp only [whereK]; unfold passE; rw [h]; rfl
        clear hon hoff
        generalize whereK pts p k = u at *
        generalize ptAt pts k = a at *
        generalize ptAt pts (nxt pts k) = b at *
        have nu : IntKind.i64.wrap (-u) = -u := wrap_small (by omega) (by omega)
        go_wp2_with fail
        refine wp_region_quiet_below (by kernel_rfl) (by kernel_rfl) ?_
        repeat (first | go_big_quiet_step (first | (go_at_call 55; with_reducible exact Calls.regrown_of (X1.out _))))
        refine wpQuiet_nil ?_
        intro _ hw'
        obtain ⟨⟨dq, osq⟩, hw''⟩ := hw'
        subst hw''
        have J := below_regrown wr dq osq
        generalize grow (redrawn wr dq) osq = w2 at J ⊢
        have hn2 := bw_trans hnx J
        have hR2 := regrow_none hRk J (by have := hnx.size; omega)
        obtain ⟨d0', d1', d2', d3'⟩ := hR2
        obtain ⟨p0, p1⟩ := blk_2 (LPk.below J)
        have zg : g < w2.heap.size := by have := hn2.size; omega
        have zp := (LPk.below J).lt
        clear J d0 d1 d2 d3 u0 u1 hRk LPk X1
        by_cases hgt : b.2 < a.2
        · have e1 : Hid (passP a b p = (decide (b.2 ≤ p.2) && decide (p.2 < a.2) && decide (0 < crs b.1 b.2 a.1 a.2 p.1 p.2))) := by
            change _ = _; unfold passP; rw [if_pos hgt]
          by_cases c1 : b.2 ≤ p.2
          · by_cases c2 : p.2 < a.2
            · by_cases c3 : 0 < crs b.1 b.2 a.1 a.2 p.1 p.2
              · have e2 := hyes (by rw [e1.out, decide_eq_true c1, decide_eq_true c2, decide_eq_true c3]; rfl)
                go_wp2_with (go_at_call 75; refine (sCross_raw _ _ _ pb pa hp _).mono ?_; rintro e w3 ⟨rfl, J⟩)
                go_roundw
                case rel => exact step _ _ (bw_trans (by repeat (first | exact hn2 | apply bw_alloc | refine bw_set ?_ (by simp; omega) _)) J) e2.out
                case measure => simp [intOf]; omega
              · have e2 := hno (by rw [e1.out, decide_eq_true c1, decide_eq_true c2, decide_eq_false c3]; rfl)
                go_wp2_with (go_at_call 75; refine (sCross_raw _ _ _ pb pa hp _).mono ?_; rintro e w3 ⟨rfl, J⟩)
                go_roundw
                case rel => exact step _ _ (bw_trans (by repeat (first | exact hn2 | apply bw_alloc | refine bw_set ?_ (by simp; omega) _)) J) e2.out
                case measure => simp [intOf]; omega
            · have e2 := hno (by rw [e1.out, decide_eq_true c1, decide_eq_false c2]; rfl)
              go_wp2_with fail
              go_roundw
              case rel => exact step _ _ (by repeat (first | exact hn2 | apply bw_alloc | refine bw_set ?_ (by simp; omega) _)) e2.out
              case measure => simp [intOf]; omega
          · have e2 := hno (by rw [e1.out, decide_eq_false c1]; rfl)
            go_wp2_with fail
            go_roundw
            case rel => exact step _ _ (by repeat (first | exact hn2 | apply bw_alloc | refine bw_set ?_ (by simp; omega) _)) e2.out
            case measure => simp [intOf]; omega
        · have e1 : Hid (passP a b p = (decide (a.2 ≤ p.2) && decide (p.2 < b.2) && decide (0 < crs a.1 a.2 b.1 b.2 p.1 p.2))) := by
            change _ = _; unfold passP; rw [if_neg hgt]
          by_cases c1 : a.2 ≤ p.2
          · by_cases c2 : p.2 < b.2
            · by_cases c3 : 0 < crs a.1 a.2 b.1 b.2 p.1 p.2
              · have e2 := hyes (by rw [e1.out, decide_eq_true c1, decide_eq_true c2, decide_eq_true c3]; rfl)
                go_wp2_with (go_at_call 75; refine (sCross_raw _ _ _ pa pb hp _).mono ?_; rintro e w3 ⟨rfl, J⟩)
                go_roundw
                case rel => exact step _ _ (bw_trans (by repeat (first | exact hn2 | apply bw_alloc | refine bw_set ?_ (by simp; omega) _)) J) e2.out
                case measure => simp [intOf]; omega
              · have e2 := hno (by rw [e1.out, decide_eq_true c1, decide_eq_true c2, decide_eq_false c3]; rfl)
                go_wp2_with (go_at_call 75; refine (sCross_raw _ _ _ pa pb hp _).mono ?_; rintro e w3 ⟨rfl, J⟩)
                go_roundw
                case rel => exact step _ _ (bw_trans (by repeat (first | exact hn2 | apply bw_alloc | refine bw_set ?_ (by simp; omega) _)) J) e2.out
                case measure => simp [intOf]; omega
            · have e2 := hno (by rw [e1.out, decide_eq_true c1, decide_eq_false c2]; rfl)
              go_wp2_with fail
              go_roundw
              case rel => exact step _ _ (by repeat (first | exact hn2 | apply bw_alloc | refine bw_set ?_ (by simp; omega) _)) e2.out
              case measure => simp [intOf]; omega
          · have e2 := hno (by rw [e1.out, decide_eq_false c1]; rfl)
            go_wp2_with fail
            go_roundw
            case rel => exact step _ _ (by repeat (first | exact hn2 | apply bw_alloc | refine bw_set ?_ (by simp; omega) _)) e2.out
            case measure => simp [intOf]; omega
end Go.Proofs.YtfnhbdanfnpdeaaDoor
