/-
  OUR OWN TEXT. The law FnLoopApart, walked: whatever bytes come in, it answers true and writes nothing that was there.
-/
import Derived.Test.YtbpcedaipkfdhaaDrawL
import Derived.Test.YtbpcedaipkfdhaaLEdges
import Derived.Test.YtbpcedaipkfdhaaLoopT
namespace Go.Proofs.Ytbpcedaipkfdhaa
open Go.RowKit Go.Sort

theorem loopApart_long (w : World) (a0 : Option Addr) (len0 cap0 : Nat) (h : 1048576 < len0) :
    Calls Try.prog 7 #[.slice a0 len0 cap0] w fun e w' => e = .returned (.bool true) ∧ Below w.heap.size w w' := by
  go_enter Try.func7, Try.ntmps7
  go_wp2
  go_ret
  exact ⟨rfl, bw_refl _⟩
theorem own_form {W : World} {base n : Nat} {v : Value} {xs : List Value} {e : TypeId} {s : Nat} (h : W.ownsRow base e s v n xs) : ∃ a c, v = .slice a n c := by
  rcases h.2 with ⟨rfl, rfl⟩ | ⟨g, c, cur, rfl, _⟩
  · exact ⟨none, 0, rfl⟩
  · exact ⟨_, c, rfl⟩
set_option maxRecDepth 100000 in
set_option maxHeartbeats 8000000 in
theorem loopApart_walk (w : World) (a0 : Option Addr) (len0 cap0 : Nat) (z0 : List Int) (r0 : IsRow .u8 w a0 len0 cap0 z0) :
    Calls Try.prog 7 #[.slice a0 len0 cap0] w fun e w' => e = .returned (.bool true) ∧ Below w.heap.size w w' := by
  by_cases hl : 1048576 < len0
  · exact loopApart_long w a0 len0 cap0 hl
  have hl0 : len0 ≤ 1048576 := by omega
  clear hl
  go_enter Try.func7, Try.ntmps7
  go_wp2_with fail
  refine (drawEdges_any w _ r0 (bw_refl _)).mono ?_
  rintro e w1 ⟨vv, l, n, rfl, ⟨g, c, rfl, n3, n7, hl, hnc, hcm, hbg, hb⟩, J1⟩
  have hP1 := hb.pts' hl
  go_wp2_with fail
  refine (loopEdges_any _ n c l (by omega) _ hP1).mono ?_
  rintro e w2 ⟨hE, J2⟩
  have K2 := bw_trans J1 J2
  have hP2 := (hP1.below J2).grow J2.size
  rcases hE with ⟨hok, rfl⟩ | ⟨hok, ev, rfl, hown⟩
  · go_wp2_with fail
    refine (sLoopEdges_any _ n c l (by omega) _ hP2).mono ?_
    rintro e w3 ⟨⟨sv, rfl, hs⟩, J3⟩
    rw [hok] at hs
    obtain ⟨sa, sc, rfl⟩ := own_form hs
    go_wp2_with fail
    go_ret
    exact ⟨rfl, bw_trans K2 J3⟩
  have hR : ∃ g' cap', ev = .slice (some ⟨g', 0, none⟩) n cap' ∧ g' < w2.heap.size ∧ SegRow w2 g' n l := by
    have hown' := hown
    rcases hown.2 with ⟨_, h0⟩ | ⟨g', cap', cur, rfl, hg1, hg2, _⟩
    · omega
    · exact ⟨g', cap', rfl, (Array.getElem?_eq_some_iff.1 hg2).1, SegRow.of_owns hown'⟩
  obtain ⟨g', cap', rfl, hg', hS⟩ := hR
  clear hown
  have hz : (n = 0) = False := by simp; omega
  have hzi : ((n : Int) == 0) = false := by rw [beq_eq_false_iff_ne]; omega
  go_wp2_with fail
  refine (sLoopEdges_any _ n c l (by omega) _ hP2).mono ?_
  rintro e w3 ⟨⟨sv, rfl, hs⟩, J3⟩
  rw [hok] at hs
  obtain ⟨sa, sc, rfl⟩ := own_form hs
  have K3 := bw_trans K2 J3
  have hP3 := (hP2.below J3).grow J3.size
  have zg := hb.lt
  replace hb := (hb.below J2).below J3
  replace hS := hS.below J3 hg'
  have hg3 : g' < w3.heap.size := by have := J3.size; omega
  have HL : Hid (l.length = n) := hl
  have hO : Hid (OkL l) := (okV_iff l).1 hok
  clear hs J3 J2 J1 hP1 hP2 hl
  simp only [if_true] at *
  go_wp2_with fail
  go_loopw [7] (fun i wr => ∃ k : Nat, k ≤ n ∧ i = .int .i64 k ∧ Below w3.heap.size w3 wr) (fun i _ => n - (intOf i).toNat)
  case atStart => exact ⟨0, Nat.zero_le _, rfl, bw_refl _⟩
  case round =>
    obtain ⟨i, hi, rfl, hnx⟩ := hrel
    by_cases hlt : i < n
    case neg =>
      obtain rfl : i = n := by omega
      go_wp2_with fail
      refine (ok_any (some ⟨g, 0, none⟩) i c l (by omega) _ ((hP3.below hnx).grow hnx.size)).mono ?_
      rw [hok]
      rintro e w4 ⟨rfl, J4⟩
      go_wp2_with fail
      go_ret
      exact ⟨rfl, bw_trans (bw_trans K3 hnx) J4⟩
    case pos =>
      have hm : nxt l i < n := by have := nxt_lt (l := l) (i := i) (by rw [HL.out]; omega); rwa [HL.out] at this
      have si : sgP (ptAt l i) (ptAt l (nxt l i)) = true := hO.out.seg i (by rw [HL.out]; exact hlt)
      have q1 : IntKind.i64.wrap ((i : Int) + 1) = (i : Int) + 1 := wrap_small (by omega) (by omega)
      have q2 : ((i : Int) + 1).tmod (n : Int) = (nxt l i : Int) := by
        rw [Int.tmod_eq_emod_of_nonneg (by omega)]; unfold nxt; rw [HL.out]; simp
      have i0 : (0 : Int) ≤ (i : Int) := Int.natCast_nonneg _
      have i1 : (i : Int) < (n : Int) := by omega
      have i2 : (0 : Int) ≤ (nxt l i : Int) := Int.natCast_nonneg _
      have i3 : (nxt l i : Int) < (n : Int) := by omega
      have hSx := hS.below hnx hg3
      obtain ⟨d0, d1, d2, d3⟩ := regrow4 (hSx i hlt)
      obtain ⟨f0, f1, f2, f3⟩ := regrow4 (hSx _ hm)
      obtain ⟨_, hPc⟩ := hb.pts' HL.out
      rcases hPc with h0 | ⟨b, off, hbo, hbl, hcs⟩
      · omega
      cases hbo
      have l0 := cell_regrown ((hnx.cell (p := ⟨g, 0 + i * 2, none⟩) hbl).trans (hcs i hlt).1)
      have l1 := cell_regrown ((hnx.cell (p := ⟨g, 0 + i * 2 + 1, none⟩) hbl).trans (hcs i hlt).2)
      simp only [Nat.zero_add] at l0 l1
      clear hcs
      have X0 : Hid (∀ w, Calls Try.prog 33 #[.agg #[.int .i64 (ptAt l i).1, .int .i64 (ptAt l i).2, .int .i64 (ptAt l (nxt l i)).1, .int .i64 (ptAt l (nxt l i)).2]] w fun e w' => e = .returned (.bool true) ∧ Below w.heap.size w w') := fun w => by
        have := segOk_raw (ptAt l i) (ptAt l (nxt l i)) w; rwa [si] at this
      go_wp2_with fail
      refine wp_region_quiet_below (by kernel_rfl) (by kernel_rfl) ?_
      repeat (first | go_big_quiet_step (first | (go_at_call 33; with_reducible exact Calls.regrown_of (X0.out _))))
      refine wpQuiet_nil ?_
      intro _ hw'
      obtain ⟨⟨dq, osq⟩, hw''⟩ := hw'
      subst hw''
      have J := below_regrown wr dq osq
      generalize grow (redrawn wr dq) osq = w4 at J ⊢
      have hn4 := bw_trans hnx J
      clear J d0 d1 d2 d3 f0 f1 f2 f3 l0 l1 X0
      go_wp2_with fail
      go_loopw [8] (fun k wr => ∃ k' : Nat, k' ≤ n ∧ k = .int .i64 k' ∧ Below w3.heap.size w3 wr) (fun i _ => n - (intOf i).toNat)
      case atStart => exact ⟨0, Nat.zero_le _, rfl, hn4⟩
      case round =>
        obtain ⟨k, hk, rfl, hny⟩ := hrel
        by_cases hlt2 : k < n
        case neg =>
          go_wp2_with fail
          go_roundw
          case rel => exact ⟨i + 1, by omega, by simp, hny⟩
          case measure => simp [intOf]; omega
        case pos =>
          have sk : sgP (ptAt l k) (ptAt l (nxt l k)) = true := hO.out.seg k (by rw [HL.out]; exact hlt2)
          have hnear := hO.out.near (i := i) (k := k) (by rw [HL.out]; exact hlt) (by rw [HL.out]; exact hlt2)
          have p1 : IntKind.i64.wrap ((k : Int) + 1) = (k : Int) + 1 := wrap_small (by omega) (by omega)
          have p2 : ((k : Int) + 1).tmod (n : Int) = (nxt l k : Int) := by
            rw [Int.tmod_eq_emod_of_nonneg (by omega)]; unfold nxt; rw [HL.out]; simp
          have j0 : (0 : Int) ≤ (k : Int) := Int.natCast_nonneg _
          have j1 : (k : Int) < (n : Int) := by omega
          have hSy := hS.below hny hg3
          obtain ⟨d0, d1, d2, d3⟩ := regrow4 (hSy i hlt)
          obtain ⟨f0, f1, f2, f3⟩ := regrow4 (hSy k hlt2)
          by_cases e1 : k = i
          · have e1f : ((k : Int) == (i : Int)) = true := by rw [e1]; simp
            rw [decide_eq_true e1] at hnear
            simp only [Bool.true_or] at hnear
            clear e1
            have X1 : Hid (∀ w, Calls Try.prog 34 #[.agg #[.int .i64 (ptAt l i).1, .int .i64 (ptAt l i).2, .int .i64 (ptAt l (nxt l i)).1, .int .i64 (ptAt l (nxt l i)).2], .agg #[.int .i64 (ptAt l k).1, .int .i64 (ptAt l k).2, .int .i64 (ptAt l (nxt l k)).1, .int .i64 (ptAt l (nxt l k)).2]] w fun e w' => e = .returned (.bool true) ∧ Below w.heap.size w w') := fun w => by
              have := meet_raw (ptAt l i) (ptAt l (nxt l i)) (ptAt l k) (ptAt l (nxt l k)) w; rw [meetQ_of si sk] at this; have e := hnear; unfold meetE at e; rwa [e] at this
            clear hnear
            go_wp2_with fail
            refine wp_region_quiet_below (by kernel_rfl) (by kernel_rfl) ?_
            repeat (first | go_big_quiet_step (first | (go_at_call 34; with_reducible exact Calls.regrown_of (X1.out _))))
            refine wpQuiet_nil ?_
            intro _ hw'
            obtain ⟨⟨dq, osq⟩, hw''⟩ := hw'
            subst hw''
            have J := below_regrown wr dq osq
            generalize grow (redrawn wr dq) osq = w5 at J ⊢
            go_wp2_with fail
            go_roundw
            case rel => exact ⟨k + 1, by omega, by simp, bw_trans hny J⟩
            case measure => simp [intOf]; omega
          have e1f : ((k : Int) == (i : Int)) = false := by rw [beq_eq_false_iff_ne]; omega
          rw [decide_eq_false e1] at hnear
          by_cases e2 : nxt l k = i
          · have e2f : ((nxt l k : Int) == (i : Int)) = true := by rw [e2]; simp
            rw [decide_eq_true e2] at hnear
            simp only [Bool.false_or, Bool.true_or] at hnear
            clear e2
            have X1 : Hid (∀ w, Calls Try.prog 34 #[.agg #[.int .i64 (ptAt l i).1, .int .i64 (ptAt l i).2, .int .i64 (ptAt l (nxt l i)).1, .int .i64 (ptAt l (nxt l i)).2], .agg #[.int .i64 (ptAt l k).1, .int .i64 (ptAt l k).2, .int .i64 (ptAt l (nxt l k)).1, .int .i64 (ptAt l (nxt l k)).2]] w fun e w' => e = .returned (.bool true) ∧ Below w.heap.size w w') := fun w => by
              have := meet_raw (ptAt l i) (ptAt l (nxt l i)) (ptAt l k) (ptAt l (nxt l k)) w; rw [meetQ_of si sk] at this; have e := hnear; unfold meetE at e; rwa [e] at this
            clear hnear
            go_wp2_with fail
            refine wp_region_quiet_below (by kernel_rfl) (by kernel_rfl) ?_
            repeat (first | go_big_quiet_step (first | (go_at_call 34; with_reducible exact Calls.regrown_of (X1.out _))))
            refine wpQuiet_nil ?_
            intro _ hw'
            obtain ⟨⟨dq, osq⟩, hw''⟩ := hw'
            subst hw''
            have J := below_regrown wr dq osq
            generalize grow (redrawn wr dq) osq = w5 at J ⊢
            go_wp2_with fail
            go_roundw
            case rel => exact ⟨k + 1, by omega, by simp, bw_trans hny J⟩
            case measure => simp [intOf]; omega
          have e2f : ((nxt l k : Int) == (i : Int)) = false := by rw [beq_eq_false_iff_ne]; omega
          rw [decide_eq_false e2] at hnear
          by_cases e3 : nxt l i = k
          · have e3f : ((nxt l i : Int) == (k : Int)) = true := by rw [e3]; simp
            rw [decide_eq_true e3] at hnear
            simp only [Bool.false_or] at hnear
            clear e3
            have X1 : Hid (∀ w, Calls Try.prog 34 #[.agg #[.int .i64 (ptAt l i).1, .int .i64 (ptAt l i).2, .int .i64 (ptAt l (nxt l i)).1, .int .i64 (ptAt l (nxt l i)).2], .agg #[.int .i64 (ptAt l k).1, .int .i64 (ptAt l k).2, .int .i64 (ptAt l (nxt l k)).1, .int .i64 (ptAt l (nxt l k)).2]] w fun e w' => e = .returned (.bool true) ∧ Below w.heap.size w w') := fun w => by
              have := meet_raw (ptAt l i) (ptAt l (nxt l i)) (ptAt l k) (ptAt l (nxt l k)) w; rw [meetQ_of si sk] at this; have e := hnear; unfold meetE at e; rwa [e] at this
            clear hnear
            go_wp2_with fail
            refine wp_region_quiet_below (by kernel_rfl) (by kernel_rfl) ?_
            repeat (first | go_big_quiet_step (first | (go_at_call 34; with_reducible exact Calls.regrown_of (X1.out _))))
            refine wpQuiet_nil ?_
            intro _ hw'
            obtain ⟨⟨dq, osq⟩, hw''⟩ := hw'
            subst hw''
            have J := below_regrown wr dq osq
            generalize grow (redrawn wr dq) osq = w5 at J ⊢
            go_wp2_with fail
            go_roundw
            case rel => exact ⟨k + 1, by omega, by simp, bw_trans hny J⟩
            case measure => simp [intOf]; omega
          have e3f : ((nxt l i : Int) == (k : Int)) = false := by rw [beq_eq_false_iff_ne]; omega
          rw [decide_eq_false e3] at hnear
          simp only [Bool.or_self] at hnear
          have X1 : Hid (∀ w, Calls Try.prog 34 #[.agg #[.int .i64 (ptAt l i).1, .int .i64 (ptAt l i).2, .int .i64 (ptAt l (nxt l i)).1, .int .i64 (ptAt l (nxt l i)).2], .agg #[.int .i64 (ptAt l k).1, .int .i64 (ptAt l k).2, .int .i64 (ptAt l (nxt l k)).1, .int .i64 (ptAt l (nxt l k)).2]] w fun e w' => e = .returned (.bool false) ∧ Below w.heap.size w w') := fun w => by
            have := meet_raw (ptAt l i) (ptAt l (nxt l i)) (ptAt l k) (ptAt l (nxt l k)) w; rw [meetQ_of si sk] at this; have e := hnear; unfold meetE at e; rwa [e] at this
          clear hnear
          go_wp2_with fail
          refine wp_region_quiet_below (by kernel_rfl) (by kernel_rfl) ?_
          repeat (first | go_big_quiet_step (first | (go_at_call 34; with_reducible exact Calls.regrown_of (X1.out _))))
          refine wpQuiet_nil ?_
          intro _ hw'
          obtain ⟨⟨dq, osq⟩, hw''⟩ := hw'
          subst hw''
          have J := below_regrown wr dq osq
          generalize grow (redrawn wr dq) osq = w5 at J ⊢
          go_wp2_with fail
          go_roundw
          case rel => exact ⟨k + 1, by omega, by simp, bw_trans hny J⟩
          case measure => simp [intOf]; omega
end Go.Proofs.Ytbpcedaipkfdhaa
