/-
  OUR OWN TEXT. The law FnStay, walked: whatever bytes come in, it answers true and writes nothing that was there.
-/
import Derived.Test.YtmoikmpbcdkidaaDrawCode
import Derived.Test.YtmoikmpbcdkidaaCodeM5
import Derived.Test.YtmoikmpbcdkidaaLuPath
import Derived.Test.YtmoikmpbcdkidaaLuSame
import Derived.Test.YtmoikmpbcdkidaaCodeS
namespace Go.Proofs.Ytmoikmpbcdkidaa
open Go.RowKit Go.Sort

/-- What the law's own test says behind a place. -/
def canK (l : List P2) : Nat → Bool
  | 0 => okP (ptAt l 0)
  | k + 1 => canK l k && okP (ptAt l (k + 1)) && inlP (ptAt l k) (ptAt l (k + 1))
theorem canK_iff (l : List P2) (k : Nat) : canK l k = true ↔ (∀ i, i ≤ k → okP (ptAt l i) = true) ∧ ∀ i, i < k → inlP (ptAt l i) (ptAt l (i + 1)) = true := by
  induction k with
  | zero =>
    constructor
    · exact fun h => ⟨fun i hi => by obtain rfl : i = 0 := (by omega); exact h, fun i hi => absurd hi (Nat.not_lt_zero _)⟩
    · exact fun h => h.1 0 (Nat.le_refl _)
  | succ k ih =>
    unfold canK
    rw [Bool.and_eq_true, Bool.and_eq_true, ih]
    constructor
    · rintro ⟨⟨⟨h1, h2⟩, h3⟩, h4⟩
      exact ⟨fun i hi => by rcases Nat.lt_or_ge k i with h | h; (obtain rfl : i = k + 1 := (by omega)); exact h3; exact h1 i h, fun i hi => by rcases Nat.lt_or_ge i k with h | h; exact h2 i h; (obtain rfl : i = k := (by omega)); exact h4⟩
    · rintro ⟨h1, h2⟩
      exact ⟨⟨⟨fun i hi => h1 i (by omega), fun i hi => h2 i (by omega)⟩, h1 _ (Nat.le_refl _)⟩, h2 k (by omega)⟩
theorem canK_all {l : List P2} (h : 1 ≤ l.length) : canK l (l.length - 1) = (l.all okP && inL l) := by
  rw [Bool.eq_iff_iff, canK_iff, Bool.and_eq_true, List.all_eq_true, all_at, inL_iff]
  exact ⟨fun h' => ⟨fun i hi => h'.1 i (by omega), fun i hi => h'.2 i (by omega)⟩, fun h' => ⟨fun i hi => h'.1 i (by omega), fun i hi => h'.2 i (by omega)⟩⟩
theorem canK_no {l : List P2} {k : Nat} (h : canK l k = false) : canK l (k + 1) = false := by
  show (canK l k && _ && _) = false
  rw [h]
  rfl
set_option maxRecDepth 100000 in
set_option maxHeartbeats 4000000 in
theorem stay_walk (w : World) (a0 : Option Addr) (len0 cap0 : Nat) (z0 : List Int) (r0 : IsRow .u8 w a0 len0 cap0 z0) :
    Calls Try.prog 4 #[.slice a0 len0 cap0] w fun e w' => e = .returned (.bool true) ∧ Below w.heap.size w w' := by
  by_cases hl0 : (1048576 : Int) < (len0 : Int)
  · go_enter Try.func4, Try.ntmps4
    go_wp2_with fail
    go_ret
    exact ⟨rfl, bw_refl _⟩
  go_enter Try.func4, Try.ntmps4
  go_wp2_with fail
  refine (drawStay_any w _ r0 (bw_refl _)).mono ?_
  rintro e w1 ⟨g, c, l, rfl, hl1, hl8, hPB, hlc, hb, J1⟩
  have hP1 := hb.pts' rfl
  obtain ⟨n, hn⟩ : ∃ n, n = l.length := ⟨_, rfl⟩
  have HL : Hid (l.length = n) := hn.symm
  rw [← hn] at hP1 hl1 hl8 hlc
  rw [← hn]
  have hgl := hb.lt
  clear hb hn
  have hSS := sCodeStay_any (some ⟨g, 0, none⟩) n c l w1 (by omega) hP1
  have hII := fun V (J : Below w1.heap.size w1 V) => codeStay_any (some ⟨g, 0, none⟩) n c l V (by omega) hlc ((hP1.below J).grow J.size)
  have HCAN : Hid (stayV l = (l.all okP && inL l)) := stay_can (t := l) (by rw [HL.out]; exact hl1) (by rw [HL.out]; omega)
  have HN : Hid (∀ j, j < n → w1.cell? ⟨g, j * 2, none⟩ = some (.int .i64 (ptAt l j).1) ∧ w1.cell? ⟨g, j * 2 + 1, none⟩ = some (.int .i64 (ptAt l j).2)) := by
    rcases hP1.2 with h0 | ⟨b9, o9, h9, _, hc9⟩
    · omega
    · cases h9
      intro j hj
      have := hc9 j hj
      rwa [Nat.zero_add] at this
  have hgw : g < w1.heap.size := hgl
  have h400 := stayR_len l
  have hbb : ∀ b : Bool, (b != b) = false := by simp
  go_wp2_with fail
  refine hSS.mono ?_
  rintro e w2 ⟨v2, rfl, A2, J2⟩
  go_wp2_with fail
  refine (hII _ J2).mono ?_
  rintro e w3 ⟨v3, rfl, A3, J3⟩
  replace A2 := A2.below J3
  obtain ⟨a2, c2, rfl, P2'⟩ := A2.own
  obtain ⟨a3, c3, rfl, P3⟩ := A3.own
  have hSm := luSame_same a3 a2 (stayR l).length c3 c2 (stayR l) w3 P3 P2' (by omega)
  have n0 : ((n : Int) == 0) = false := by simp; omega
  have n1 : ((n : Int) = 0) = False := by simp; omega
  go_wp2_with fail
  refine hSm.mono ?_
  rintro e w4 ⟨rfl, J4⟩
  have J14 := bw_trans J2 (bw_trans J3 J4)
  obtain ⟨d0, d1⟩ := HN.out 0 (by omega)
  have q0 := (J14.cell (p := ⟨g, 0 * 2, none⟩) hgw).trans d0
  have q1 := (J14.cell (p := ⟨g, 0 * 2 + 1, none⟩) hgw).trans d1
  simp only [Nat.zero_mul, Nat.zero_add] at q0 q1
  have i0 : (0 : Int) < (n : Int) := by omega
  clear d0 d1
  go_wp2_with fail
  refine (ptOk_any (ptAt l 0).1 (ptAt l 0).2 _).mono ?_
  rintro e w5 ⟨rfl, J5⟩
  have hJ15 := bw_trans J14 J5
  go_wp2_with fail
  go_loopw [8, 9, 10] (fun cv nv i wr => ∃ (k N : Nat), k + 1 ≤ n ∧ i = .int .i64 ((k + 1 : Nat) : Int) ∧ cv = .bool (canK l k) ∧ nv = .int .i64 (N : Int) ∧ N = (stayL (l.take (k + 1))).length ∧ N ≤ 30 * k + 1 ∧ Below w5.heap.size w5 wr) (fun _ _ i _ => n - (intOf i).toNat)
  case atStart => exact ⟨0, 1, hl1, rfl, rfl, rfl, by rw [stay_take1 (by rw [HL.out]; omega)]; rfl, by omega, bw_refl _⟩
  case round =>
    obtain ⟨k, N, hk, rfl, rfl, rfl, hNl, hN30, hn5⟩ := hrel
    have hnx := bw_trans hJ15 hn5
    have HNL : Hid (N = (stayL (l.take (k + 1))).length) := hNl
    clear hNl
    by_cases hlt : k + 1 < n
    case neg =>
      obtain rfl : n = k + 1 := by omega
      have HK : Hid (canK l k = stayV l) := by
        change _ = _
        rw [HCAN.out, ← canK_all (by rw [HL.out]; omega), HL.out, Nat.add_sub_cancel]
      have et : l.take (k + 1) = l := List.take_of_length_le (by rw [HL.out]; exact Nat.le_refl _)
      have HN2 : Hid (N = (stayL l).length) := by change _ = _; rw [HNL.out, et]
      have eK := HK.out
      cases hv : stayV l with
      | false =>
        rw [hv] at eK
        rw [eK]
        go_wp2_with fail
        go_ret
        exact ⟨rfl, bw_trans J1 hnx⟩
      | true =>
        rw [hv] at eK
        rw [eK]
        have eR : stayR l = stayL l := by unfold stayR; rw [hv]; rfl
        rw [eR] at P3 ⊢
        rw [← HN2.out] at P3 ⊢
        have hpath := stay_path hv
        obtain ⟨hl1', _, hin', h4'⟩ := stayV_parts hv
        obtain ⟨f1, f2, f3⟩ := stay_facts hl1'.1 hin'
        rw [← HN2.out, HL.out, Nat.add_sub_cancel] at f2
        have hN1 : 1 ≤ N := by rw [HN2.out]; exact (pathP_parts hpath).1.1
        have J3w := bw_trans (bw_trans J4 J5) hn5
        have P3w := (P3.below J3w).grow J3w.size
        have P1w := (hP1.below hnx).grow hnx.size
        rcases P3w.2 with h0 | ⟨g3, o3, rfl, hg3, hc3⟩
        · omega
        obtain ⟨s0, s1⟩ := hc3 0 (by omega)
        obtain ⟨s2, s3⟩ := hc3 (N - 1) (by omega)
        obtain ⟨M, hM⟩ : ∃ M, N = M + 1 := ⟨N - 1, by omega⟩
        rw [f1, Nat.zero_mul, Nat.add_zero] at s0 s1
        rw [f2, show N - 1 = M by omega] at s2 s3
        obtain ⟨e0, e1⟩ := HN.out 0 (by omega)
        obtain ⟨e2, e3⟩ := HN.out k (by omega)
        have X1 : Hid (∀ V, Below wr.heap.size wr V → Calls Try.prog 19 #[.slice (some ⟨g3, o3, none⟩) N c3] V fun e w' => e = .returned (.bool true) ∧ Below V.heap.size V w') := fun V J => luPath_ok _ N c3 (stayL l) V ((P3w.below J).grow J.size) hpath
        have X2 : Hid (∀ V, Below wr.heap.size wr V → Calls Try.prog 15 #[.slice (some ⟨g, 0, none⟩) (k + 1) c, .slice (some ⟨g3, o3, none⟩) N c3] V fun e w' => e = .returned (.bool true) ∧ Below V.heap.size V w') := fun V J => luPart_ok _ _ _ _ _ _ l (stayL l) V (by omega) (by omega) ((P1w.below J).grow J.size) ((P3w.below J).grow J.size) f3
        subst hM
        have q0 := cell_regrown s0
        have q1 := cell_regrown s1
        have q2 := cell_regrown s2
        have q3 := cell_regrown s3
        have q4 := cell_regrown ((hnx.cell (p := ⟨g, 0 * 2, none⟩) hgw).trans e0)
        have q5 := cell_regrown ((hnx.cell (p := ⟨g, 0 * 2 + 1, none⟩) hgw).trans e1)
        have q6 := cell_regrown ((hnx.cell (p := ⟨g, k * 2, none⟩) hgw).trans e2)
        have q7 := cell_regrown ((hnx.cell (p := ⟨g, k * 2 + 1, none⟩) hgw).trans e3)
        simp only [Nat.zero_mul, Nat.zero_add] at q4 q5
        have j1 : IntKind.i64.wrap ((k : Int)) = (k : Int) := wrap_small (by omega) (by omega)
        have j2 : (0 : Int) ≤ (k : Int) := Int.natCast_nonneg _
        have j3 : IntKind.i64.wrap ((M : Int)) = (M : Int) := wrap_small (by omega) (by omega)
        have j4 : (0 : Int) ≤ (M : Int) := Int.natCast_nonneg _
        clear s0 s1 s2 s3 e0 e1 e2 e3 hc3 f1 f2 f3
        go_wp2_with fail
        refine wp_region_quiet_below (by kernel_rfl) (by kernel_rfl) ?_
        repeat (first | go_big_quiet_step (first | (go_at_call 19; with_reducible exact Calls.regrown_of (X1.out _ (below_regrown wr _ _))) | (go_at_call 15; with_reducible exact Calls.regrown_of (X2.out _ (below_regrown wr _ _)))))
        refine wpQuiet_nil ?_
        intro _ hw'
        obtain ⟨⟨dq, osq⟩, hw''⟩ := hw'
        subst hw''
        have J := below_regrown wr dq osq
        generalize grow (redrawn wr dq) osq = v1 at J ⊢
        go_wp2_with fail
        go_ret
        exact ⟨rfl, bw_trans J1 (bw_trans hnx J)⟩
    case pos =>
      obtain ⟨ax, hax⟩ : ∃ ax, ax = (ptAt l k).1 := ⟨_, rfl⟩
      obtain ⟨ay, hay⟩ : ∃ ay, ay = (ptAt l k).2 := ⟨_, rfl⟩
      obtain ⟨bx, hbx⟩ : ∃ bx, bx = (ptAt l (k + 1)).1 := ⟨_, rfl⟩
      obtain ⟨b_y, hby⟩ : ∃ b_y, b_y = (ptAt l (k + 1)).2 := ⟨_, rfl⟩
      have HA : Hid (ptAt l k = (ax, ay)) := by change _ = _; rw [hax, hay]
      have HB : Hid (ptAt l (k + 1) = (bx, b_y)) := by change _ = _; rw [hbx, hby]
      have bA := hPB (ptAt l k) (by rw [ptAt_lt (by rw [HL.out]; omega)]; exact List.getElem_mem _)
      have bB := hPB (ptAt l (k + 1)) (by rw [ptAt_lt (by rw [HL.out]; omega)]; exact List.getElem_mem _)
      rw [HA.out] at bA
      rw [HB.out] at bB
      unfold PB at bA bB
      simp only at bA bB
      obtain ⟨e0, e1⟩ := HN.out k (by omega)
      obtain ⟨e2, e3⟩ := HN.out (k + 1) hlt
      rw [HA.out] at e0 e1
      rw [HB.out] at e2 e3
      simp only at e0 e1 e2 e3
      have j1 : IntKind.i64.wrap ((k : Int)) = (k : Int) := wrap_small (by omega) (by omega)
      have j2 : (0 : Int) ≤ (k : Int) := Int.natCast_nonneg _
      have j3 : (k : Int) + 1 < (n : Int) := by omega
      have j4 : (k : Int) < (n : Int) := by omega
      obtain ⟨dx, hdx⟩ : ∃ dx, dx = bx - ax := ⟨_, rfl⟩
      obtain ⟨dy, hdy⟩ : ∃ dy, dy = b_y - ay := ⟨_, rfl⟩
      have k1 : IntKind.i64.wrap (bx - ax) = dx := by rw [hdx]; exact wrap_small (by omega) (by omega)
      have k2 : IntKind.i64.wrap (b_y - ay) = dy := by rw [hdy]; exact wrap_small (by omega) (by omega)
      obtain ⟨A, hA⟩ : ∃ A : Nat, A = dx.natAbs := ⟨_, rfl⟩
      obtain ⟨C, hC⟩ : ∃ C : Nat, C = dy.natAbs := ⟨_, rfl⟩
      have m1 : (if dx < -dx then -dx else dx) = (A : Int) := by split <;> omega
      have m2 : (if dy < -dy then -dy else dy) = (C : Int) := by split <;> omega
      have k3 : IntKind.i64.wrap (-dx) = -dx := wrap_small (by omega) (by omega)
      have k4 : IntKind.i64.wrap (-dy) = -dy := wrap_small (by omega) (by omega)
      have k5 : IntKind.i64.wrap ((N : Int) + (A : Int)) = (N : Int) + (A : Int) := wrap_small (by omega) (by omega)
      have k6 : IntKind.i64.wrap ((N : Int) + (A : Int) + (C : Int)) = (N : Int) + (A : Int) + (C : Int) := wrap_small (by omega) (by omega)
      have HD : Hid (distP (ptAt l k) (ptAt l (k + 1)) = A + C) := by change _ = _; rw [HA.out, HB.out, hA, hC, hdx, hdy]; rfl
      have HX : Hid (inlP (ptAt l k) (ptAt l (k + 1)) = ((decide (dx = 0)) != (decide (dy = 0)))) := by change _ = _; rw [inlP_xor, HA.out, HB.out, hdx, hdy]
      have hAb : A ≤ 13 ∧ C ≤ 13 := by omega
      have HNX : Hid (N + A + C = (stayL (l.take (k + 1 + 1))).length) := by
        change _ = _
        rw [stay_take (by rw [HL.out]; exact hlt), List.length_append, legL_len, HD.out, ← HNL.out]
        omega
      have f0 := cell_regrown ((hnx.cell (p := ⟨g, k * 2, none⟩) hgw).trans e0)
      have f2 := cell_regrown ((hnx.cell (p := ⟨g, (k + 1) * 2, none⟩) hgw).trans e2)
      have HE : Hid (w1.cell? ⟨g, k * 2 + 1, none⟩ = some (.int .i64 ay) ∧ w1.cell? ⟨g, (k + 1) * 2 + 1, none⟩ = some (.int .i64 b_y) ∧ w1.cell? ⟨g, (k + 1) * 2, none⟩ = some (.int .i64 bx)) := ⟨e1, e3, e2⟩
      clear hax hay hbx hby e0 e1 e2 e3 hdx hdy hA hC bA bB
      go_wp2_with fail
      refine wp_region_quiet_below (by kernel_rfl) (by kernel_rfl) ?_
      repeat (first | go_big_quiet_step (fail))
      refine wpQuiet_nil ?_
      intro _ hw'
      obtain ⟨⟨dq, osq⟩, hw''⟩ := hw'
      subst hw''
      have J := below_regrown wr dq osq
      generalize grow (redrawn wr dq) osq = v1 at J ⊢
      have hn1 := bw_trans hnx J
      have hq1 := bw_trans hn5 J
      have f1 := cell_regrown ((hn1.cell (p := ⟨g, k * 2 + 1, none⟩) hgw).trans HE.out.1)
      have f3 := cell_regrown ((hn1.cell (p := ⟨g, (k + 1) * 2 + 1, none⟩) hgw).trans HE.out.2.1)
      clear f0 f2 J
      go_wp2_with fail
      refine wp_region_quiet_below (by kernel_rfl) (by kernel_rfl) ?_
      repeat (first | go_big_quiet_step (fail))
      refine wpQuiet_nil ?_
      intro _ hw'
      obtain ⟨⟨dq, osq⟩, hw''⟩ := hw'
      subst hw''
      have J := below_regrown v1 dq osq
      generalize grow (redrawn v1 dq) osq = v2 at J ⊢
      have hn2 := bw_trans hn1 J
      have hq2 := bw_trans hq1 J
      have f4 := (hn2.cell (p := ⟨g, (k + 1) * 2, none⟩) hgw).trans HE.out.2.2
      have f5 := (hn2.cell (p := ⟨g, (k + 1) * 2 + 1, none⟩) hgw).trans HE.out.2.1
      clear f1 f3 J
      cases hc : canK l k
      case false =>
        have HC2 : Hid (canK l (k + 1) = false) := canK_no hc
        go_wp2_with fail
        go_roundw
        case rel => exact ⟨k + 1, N + A + C, by omega, by simp, by rw [HC2.out], by simp, HNX.out, by omega, hq2⟩
        case measure => simp [intOf]; omega
      case true =>
        have hpt := ptOk_any bx b_y
        cases hb' : ptB bx b_y
        case false =>
          have HC2 : Hid (canK l (k + 1) = false) := by
            change _ = _
            show (canK l k && okP (ptAt l (k + 1)) && _) = false
            rw [HB.out]
            show (canK l k && ptB bx b_y && _) = false
            rw [hb', Bool.and_false]
            rfl
          rw [hb'] at hpt
          go_wp2_with fail
          refine (hpt _).mono ?_
          rintro e v3 ⟨rfl, J⟩
          go_wp2_with fail
          go_roundw
          case rel => exact ⟨k + 1, N + A + C, by omega, by simp, by rw [HC2.out], by simp, HNX.out, by omega, bw_trans hq2 J⟩
          case measure => simp [intOf]; omega
        case true =>
          have HC2 : Hid (canK l (k + 1) = ((decide (dx = 0)) != (decide (dy = 0)))) := by
            change _ = _
            show (canK l k && okP (ptAt l (k + 1)) && inlP (ptAt l k) (ptAt l (k + 1))) = _
            rw [HX.out, HB.out]
            show (canK l k && ptB bx b_y && _) = _
            rw [hb', hc]
            rfl
          rw [hb'] at hpt
          go_wp2_with fail
          refine (hpt _).mono ?_
          rintro e v3 ⟨rfl, J⟩
          go_wp2_with fail
          go_roundw
          case rel => exact ⟨k + 1, N + A + C, by omega, by simp, by rw [HC2.out]; first | rfl | simp, by simp, HNX.out, by omega, bw_trans hq2 J⟩
          case measure => simp [intOf]; omega
end Go.Proofs.Ytmoikmpbcdkidaa
