/-
  OUR OWN TEXT. The law FnTurns, walked: whatever bytes come in, it answers true and writes nothing that was there.
-/
import Derived.Test.YtmoikmpbcdkidaaDrawTurns
import Derived.Test.YtmoikmpbcdkidaaCodeM5
import Derived.Test.YtmoikmpbcdkidaaLuSame
import Derived.Test.YtmoikmpbcdkidaaLuPath
import Derived.Test.YtmoikmpbcdkidaaTurn
import Derived.Test.YtmoikmpbcdkidaaCodeS
import Derived.Test.YtmoikmpbcdkidaaCodeU
import Derived.Test.YtmoikmpbcdkidaaSCodeU
namespace Go.Proofs.Ytmoikmpbcdkidaa
open Go.RowKit Go.Sort

theorem turnsVt_of {l : List P2} (h : pathP l = true) : turnsV l = turnsL l := by unfold turnsV; rw [h]; rfl
theorem turnsVt_no {l : List P2} (h : pathP l = false) : turnsV l = [] := by unfold turnsV; rw [h]; rfl
theorem AnsT.taket {base top : Nat} {W : World} {v : Value} {l : List P2} (h : AnsT base top W v l) (h1 : 1 ≤ l.length) : ∃ g c, v = .slice (some ⟨g, 0, none⟩) l.length c ∧ l.length ≤ c ∧ PtBlk W g c l l.length := by
  rcases h with ⟨rfl, _⟩ | ⟨g, c, e, _, _, hc, hB⟩
  · simp at h1
  · exact ⟨g, c, e, hc, hB⟩
theorem blk_capt {W : World} {g c n : Nat} {l : List P2} (h : PtBlk W g c l n) : n ≤ c := by
  obtain ⟨cur, _, hs, hc⟩ := h
  rcases Nat.eq_zero_or_pos n with h0 | h0
  · omega
  · have := (hc (n - 1) (by omega)).2
    have := (Array.getElem?_eq_some_iff.1 this).1
    omega
theorem pt_some {l : List P2} {i : Nat} (h : i < l.length) : l[i]? = some (ptAt l i) := by rw [ptAt_lt h]; exact List.getElem?_eq_getElem h
theorem turnsR_last (a b : P2) (r : List P2) : (goT a b r).getLast? = (b :: r).getLast? := by
  induction r generalizing a b with
  | nil => rfl
  | cons c r ih =>
    unfold goT
    split
    · rw [ih]; simp
    · rw [List.getLast?_cons, ih, List.getLast?_cons_cons, List.getLast?_cons]; rfl
theorem turns_ends {l : List P2} (h : 1 ≤ l.length) : ptAt (turnsL l) 0 = ptAt l 0 ∧ ptAt (turnsL l) ((turnsL l).length - 1) = ptAt l (l.length - 1) := by
  have last : ∀ (q : List P2), 1 ≤ q.length → q.getLast? = some (ptAt q (q.length - 1)) := fun q hq => by
    rw [List.getLast?_eq_getElem?, pt_some (by omega)]
  have hT := turnsL_nil h
  have e := last _ hT
  have e' := last _ h
  rw [turnsL_R] at *
  match l, h with
  | [a], _ => exact ⟨rfl, rfl⟩
  | a :: b :: r, _ =>
    refine ⟨rfl, ?_⟩
    have e2 : (turnsR (a :: b :: r)).getLast? = (a :: b :: r).getLast? := by
      show (a :: goT a b r).getLast? = _
      rw [List.getLast?_cons, turnsR_last, List.getLast?_cons_cons, List.getLast?_cons]; rfl
    rw [e, e'] at e2
    exact Option.some.inj e2
set_option maxRecDepth 100000 in
set_option maxHeartbeats 4000000 in
theorem turns_walk (w : World) (a0 : Option Addr) (len0 cap0 : Nat) (z0 : List Int) (r0 : IsRow .u8 w a0 len0 cap0 z0) :
    Calls Try.prog 3 #[.slice a0 len0 cap0] w fun e w' => e = .returned (.bool true) ∧ Below w.heap.size w w' := by
  by_cases hl0 : (1048576 : Int) < (len0 : Int)
  · go_enter Try.func3, Try.ntmps3
    go_wp2_with fail
    go_ret
    exact ⟨rfl, bw_refl _⟩
  go_enter Try.func3, Try.ntmps3
  go_wp2_with fail
  refine (drawTurns_any w _ r0 (bw_refl _)).mono ?_
  rintro e w1 ⟨g, c, l, rfl, _, hl20, hPB, hlc, hb, J1⟩
  have hP1 := hb.pts' rfl
  have hII := codeTurns_any (some ⟨g, 0, none⟩) l.length c l w1 (by omega) hlc hP1
  have hSS := fun V (J : Below w1.heap.size w1 V) => sCodeTurns_any (some ⟨g, 0, none⟩) l.length c l V (by omega) ((hP1.below J).grow J.size)
  cases hp : pathP l with
  | false =>
    rw [turnsVt_no hp] at hSS hII
    go_wp2_with fail
    refine hII.mono ?_
    rintro e w2 ⟨v2, rfl, A2, J2⟩
    go_wp2_with fail
    refine (hSS _ J2).mono ?_
    rintro e w3 ⟨v3, rfl, A3, J3⟩
    replace A2 := A2.below J3
    obtain ⟨a2, c2, rfl, P2'⟩ := A2.own
    obtain ⟨a3, c3, rfl, P3⟩ := A3.own
    go_wp2_with fail
    refine (luSame_same a2 a3 0 c2 c3 [] w3 P2' P3 (by omega)).mono ?_
    rintro e w4 ⟨rfl, J4⟩
    go_wp2_with fail
    refine (hSS _ (bw_trans J2 (bw_trans J3 J4))).mono ?_
    rintro e w5 ⟨v5, rfl, A5, J5⟩
    obtain ⟨a5, c5, rfl, P5⟩ := A5.own
    go_wp2_with fail
    refine (luSame_same a2 a5 0 c2 c5 [] w5 ((P2'.below (bw_trans J4 J5)).grow (bw_trans J4 J5).size) P5 (by omega)).mono ?_
    rintro e w6 ⟨rfl, J6⟩
    go_wp2_with fail
    go_ret
    exact ⟨rfl, bw_trans J1 (bw_trans J2 (bw_trans J3 (bw_trans J4 (bw_trans J5 J6))))⟩
  | true =>
    have hps := pathP_parts hp
    obtain ⟨n, hn⟩ : ∃ n, n = l.length := ⟨_, rfl⟩
    obtain ⟨t, ht⟩ : ∃ t, t = turnsL l := ⟨_, rfl⟩
    obtain ⟨m, hm⟩ : ∃ m, m = t.length := ⟨_, rfl⟩
    have hT1 : 1 ≤ m := by rw [hm, ht]; exact turnsL_nil hps.1.1
    have hTl : m ≤ n := by rw [hm, ht, hn]; exact turnsK_len _ _
    have hn1 : 1 ≤ n := by rw [hn]; exact hps.1.1
    have hn20 : n ≤ 20 := by rw [hn]; exact hl20
    have HV : Hid (turnsV l = t) := by change _ = _; rw [ht]; exact turnsVt_of hp
    rw [HV.out, ← hn] at hSS hII
    have HL : Hid (l.length = n) := hn.symm
    have HT : Hid (t.length = m) := hm.symm
    have HMEM : Hid (∀ p ∈ t, p ∈ l) := fun p hp => by rw [ht] at hp; exact turnsL_mem hp
    have HOK : Hid (∀ i, i < m → ptB (ptAt t i).1 (ptAt t i).2 = true) := fun i hi => hps.2.1 (ptAt t i) (HMEM.out _ (by rw [ptAt_lt (by rw [HT.out]; exact hi)]; exact List.getElem_mem _))
    have HTRI : Hid (∀ i, i + 2 < m → ¬ (crP (ptAt t i) (ptAt t (i + 1)) (ptAt t (i + 2)) = 0 ∧ 0 < doP (ptAt t i) (ptAt t (i + 1)) (ptAt t (i + 2)))) := fun i hi => by
      have e0 := pt_some (l := t) (i := i) (by rw [HT.out]; omega)
      have e1 := pt_some (l := t) (i := i + 1) (by rw [HT.out]; omega)
      have e2 := pt_some (l := t) (i := i + 2) (by rw [HT.out]; omega)
      rw [ht] at e0 e1 e2 ⊢
      exact turns_tri hps.2.2 i _ _ _ e0 e1 e2
    have HENDS : Hid (ptAt t 0 = ptAt l 0 ∧ ptAt t (m - 1) = ptAt l (n - 1)) := by
      have h1 := turns_ends hps.1.1
      change _ ∧ _
      rw [hm, ht, hn]
      exact h1
    obtain ⟨hsv, hsl⟩ := stayV_turns hp
    have HS : Hid (stayV t = true) := by change _ = _; rw [ht]; exact hsv
    have HSR : Hid (stayR t = l) := by change _ = _; rw [ht]; unfold stayR; rw [hsv, hsl]; rfl
    rw [← hn] at hb hlc hP1
    rw [← hn]
    clear hn hm ht hp hps hl20 hsv hsl
    go_wp2_with fail
    refine hII.mono ?_
    rintro e w2 ⟨v2, rfl, A2, J2⟩
    go_wp2_with fail
    refine (hSS _ J2).mono ?_
    rintro e w3 ⟨v3, rfl, A3, J3⟩
    replace A2 := A2.below J3
    obtain ⟨g2, c2, rfl, hc2, hB2⟩ := A2.taket (by rw [HT.out]; exact hT1)
    obtain ⟨a3, c3, rfl, P3⟩ := A3.own
    rw [HT.out] at P3 hB2 hc2
    rw [HT.out]
    have P2' := hB2.pts' HT.out
    have nz : (m = 0) = False := by simp; omega
    have nz2 : ((m : Int) == 0) = false := by simp; omega
    go_wp2_with fail
    refine (luSame_same (some ⟨g2, 0, none⟩) a3 m c2 c3 t w3 P2' P3 (by omega)).mono ?_
    rintro e w4 ⟨rfl, J4⟩
    have J14 := bw_trans J2 (bw_trans J3 J4)
    clear P3 hII hSS A2 A3
    have hSt := codeStay_any (some ⟨g2, 0, none⟩) m c2 t w4 (by omega) hc2 ((P2'.below J4).grow J4.size)
    rw [HS.out, HSR.out] at hSt
    go_wp2_with fail
    refine hSt.mono ?_
    clear hSt
    rintro e w5 ⟨v5, rfl, A5, J5⟩
    obtain ⟨a5, c5, rfl, P5⟩ := A5.own
    rw [HL.out] at P5
    rw [HL.out]
    clear A5
    have hB5 := (hB2.below J4).below J5
    have hg5 := hB5.lt
    have HN : Hid (∀ j, j < m → w5.cell? ⟨g2, j * 2, none⟩ = some (.int .i64 (ptAt t j).1) ∧ w5.cell? ⟨g2, j * 2 + 1, none⟩ = some (.int .i64 (ptAt t j).2)) := by
      rcases (hB5.pts' HT.out).2 with h0 | ⟨b9, o9, h9, _, hc9⟩
      · omega
      · cases h9
        intro j hj
        have := hc9 j hj
        rwa [Nat.zero_add] at this
    have J15 := bw_trans J14 J5
    go_wp2_with fail
    go_loopw [8] (fun i wr => ∃ k : Nat, (k + 2 ≤ m ∨ k = 0) ∧ i = .int .i64 ((k + 2 : Nat) : Int) ∧ Below w5.heap.size w5 wr) (fun i _ => m - (intOf i).toNat)
    case atStart => exact ⟨0, .inr rfl, rfl, bw_refl _⟩
    case round =>
      obtain ⟨k, hk, rfl, hnx⟩ := hrel
      obtain ⟨z, hz⟩ : ∃ z, z = k + 2 := ⟨_, rfl⟩
      obtain ⟨k1, hk1⟩ : ∃ k1, k1 = k + 1 := ⟨_, rfl⟩
      rw [← hz]
      by_cases hlt : z < m
      case neg =>
        have hlt' : ¬ ((z : Int) < (m : Int)) := by omega
        have hP1w := (hP1.below (bw_trans J15 hnx)).grow (bw_trans J15 hnx).size
        have K35 := bw_trans (bw_trans J4 J5) hnx
        have hP2w := (P2'.below K35).grow K35.size
        have hP5w := (P5.below hnx).grow hnx.size
        obtain ⟨M, hM⟩ : ∃ M, m = M + 1 := ⟨m - 1, by omega⟩
        obtain ⟨R, hR⟩ : ∃ R, n = R + 1 := ⟨n - 1, by omega⟩
        have X1 : Hid (∀ V, Below wr.heap.size wr V → Calls Try.prog 11 #[.slice a5 n c5, .slice (some ⟨g, 0, none⟩) n c] V fun e w' => e = .returned (.bool true) ∧ Below V.heap.size V w') := fun V J => luSame_same _ _ _ _ _ l V ((hP5w.below J).grow J.size) ((hP1w.below J).grow J.size) (by omega)
        have X2 : Hid (∀ V, Below wr.heap.size wr V → Calls Try.prog 15 #[.slice (some ⟨g2, 0, none⟩) m c2, .slice (some ⟨g, 0, none⟩) n c] V fun e w' => e = .returned (.bool true) ∧ Below V.heap.size V w') := fun V J => luPart_ok _ _ _ _ _ _ t l V (by omega) (by omega) ((hP2w.below J).grow J.size) ((hP1w.below J).grow J.size) HMEM.out
        obtain ⟨f0, f1⟩ := HENDS.out
        rw [show m - 1 = M by omega, show n - 1 = R by omega] at f1
        rcases hP1w.2 with h0 | ⟨g9, o9, h9, hg9, hc9⟩
        · omega
        cases h9
        obtain ⟨e0, e1⟩ := hc9 0 (by omega)
        obtain ⟨e2, e3⟩ := hc9 R (by omega)
        obtain ⟨s0, s1⟩ := HN.out 0 (by omega)
        obtain ⟨s2, s3⟩ := HN.out M (by omega)
        rw [f0] at s0 s1
        rw [f1] at s2 s3
        rw [Nat.zero_add] at e0 e1 e2 e3
        have hgw : g2 < w5.heap.size := hg5
        have q0 := cell_regrown ((hnx.cell (p := ⟨g2, 0 * 2, none⟩) hgw).trans s0)
        have q1 := cell_regrown ((hnx.cell (p := ⟨g2, 0 * 2 + 1, none⟩) hgw).trans s1)
        have q2 := cell_regrown ((hnx.cell (p := ⟨g2, M * 2, none⟩) hgw).trans s2)
        have q3 := cell_regrown ((hnx.cell (p := ⟨g2, M * 2 + 1, none⟩) hgw).trans s3)
        have q4 := cell_regrown e0
        have q5 := cell_regrown e1
        have q6 := cell_regrown e2
        have q7 := cell_regrown e3
        simp only [Nat.zero_mul, Nat.zero_add] at q0 q1 q4 q5
        have j1 : IntKind.i64.wrap ((m : Int) - 1) = (M : Int) := by rw [show (m : Int) - 1 = (M : Int) by omega]; exact wrap_small (by omega) (by omega)
        have j2 : IntKind.i64.wrap ((n : Int) - 1) = (R : Int) := by rw [show (n : Int) - 1 = (R : Int) by omega]; exact wrap_small (by omega) (by omega)
        have j3 : (0 : Int) ≤ (M : Int) := Int.natCast_nonneg _
        have j4 : (0 : Int) ≤ (R : Int) := Int.natCast_nonneg _
        have j5 : (M : Int) < (m : Int) := by omega
        have j6 : (R : Int) < (n : Int) := by omega
        have j7 : (0 : Int) < (m : Int) := by omega
        have j8 : (0 : Int) < (n : Int) := by omega
        clear s0 s1 s2 s3 e0 e1 e2 e3 hc9 hM hR hz hk1 hk f0 f1
        go_wp2_with fail
        refine wp_region_quiet_below (by kernel_rfl) (by kernel_rfl) ?_
        repeat (first | go_big_quiet_step (first | (go_at_call 11; with_reducible exact Calls.regrown_of (X1.out _ (below_regrown wr _ _))) | (go_at_call 15; with_reducible exact Calls.regrown_of (X2.out _ (below_regrown wr _ _)))))
        refine wpQuiet_nil ?_
        intro _ hw'
        obtain ⟨⟨dq, osq⟩, hw''⟩ := hw'
        subst hw''
        have J := below_regrown wr dq osq
        generalize grow (redrawn wr dq) osq = v1 at J ⊢
        go_wp2_with fail
        go_ret
        exact ⟨rfl, bw_trans J1 (bw_trans (bw_trans J15 hnx) J)⟩
      case pos =>
        have hlt' : (z : Int) < (m : Int) := by omega
        have j0 : IntKind.i64.wrap ((z : Int) - 2) = (k : Int) := by rw [show (z : Int) - 2 = (k : Int) by omega]; exact wrap_small (by omega) (by omega)
        have j1 : IntKind.i64.wrap ((z : Int) - 1) = (k1 : Int) := by rw [show (z : Int) - 1 = (k1 : Int) by omega]; exact wrap_small (by omega) (by omega)
        have j2 : IntKind.i64.wrap ((z : Int) + 1) = (z : Int) + 1 := wrap_small (by omega) (by omega)
        have j3 : (0 : Int) ≤ (k : Int) := Int.natCast_nonneg _
        have j4 : (0 : Int) ≤ (k1 : Int) := Int.natCast_nonneg _
        have j5 : (0 : Int) ≤ (z : Int) := Int.natCast_nonneg _
        have j6 : (k : Int) < (m : Int) := by omega
        have j7 : (k1 : Int) < (m : Int) := by omega
        obtain ⟨d0, d1⟩ := HN.out k (by omega)
        obtain ⟨d2, d3⟩ := HN.out k1 (by omega)
        obtain ⟨d4, d5⟩ := HN.out z hlt
        have hgw : g2 < w5.heap.size := hg5
        have oA := HOK.out k (by omega)
        have oB := HOK.out k1 (by omega)
        have oC := HOK.out z hlt
        have TRI := HTRI.out k (by omega)
        rw [← hk1, show k + 2 = z from hz.symm] at TRI
        obtain ⟨ax, hax⟩ : ∃ ax, ax = (ptAt t k).1 := ⟨_, rfl⟩
        obtain ⟨ay, hay⟩ : ∃ ay, ay = (ptAt t k).2 := ⟨_, rfl⟩
        obtain ⟨bx, hbx⟩ : ∃ bx, bx = (ptAt t k1).1 := ⟨_, rfl⟩
        obtain ⟨b_y, hby⟩ : ∃ b_y, b_y = (ptAt t k1).2 := ⟨_, rfl⟩
        obtain ⟨cx, hcx⟩ : ∃ cx, cx = (ptAt t z).1 := ⟨_, rfl⟩
        obtain ⟨cy, hcy⟩ : ∃ cy, cy = (ptAt t z).2 := ⟨_, rfl⟩
        unfold crP doP at TRI
        rw [← hax, ← hay, ← hbx, ← hby, ← hcx, ← hcy] at TRI
        rw [← hax] at d0
        rw [← hay] at d1
        rw [← hbx] at d2
        rw [← hby] at d3
        rw [← hcx] at d4
        rw [← hcy] at d5
        rw [← hax, ← hay] at oA
        rw [← hbx, ← hby] at oB
        rw [← hcx, ← hcy] at oC
        clear hax hay hbx hby hcx hcy
        have bA := (ptB_iff _ _).1 oA
        have bB := (ptB_iff _ _).1 oB
        have bC := (ptB_iff _ _).1 oC
        have k2 : IntKind.i64.wrap (bx - ax) = bx - ax := wrap_small (by omega) (by omega)
        have k3 : IntKind.i64.wrap (b_y - ay) = b_y - ay := wrap_small (by omega) (by omega)
        have k4 : IntKind.i64.wrap (cx - bx) = cx - bx := wrap_small (by omega) (by omega)
        have k5 : IntKind.i64.wrap (cy - b_y) = cy - b_y := wrap_small (by omega) (by omega)
        have p1 := prod_bd (x := bx - ax) (y := cx - bx) (by omega) (by omega) (by omega) (by omega)
        have p2 := prod_bd (x := b_y - ay) (y := cy - b_y) (by omega) (by omega) (by omega) (by omega)
        obtain ⟨P1, hP1'⟩ : ∃ P1, P1 = (bx - ax) * (cx - bx) := ⟨_, rfl⟩
        obtain ⟨P2, hP2'⟩ : ∃ P2, P2 = (b_y - ay) * (cy - b_y) := ⟨_, rfl⟩
        rw [← hP1'] at p1
        rw [← hP2'] at p2
        rw [← hP1', ← hP2'] at TRI
        have k6 : IntKind.i64.wrap ((bx - ax) * (cx - bx)) = P1 := by rw [← hP1']; exact wrap_small (by omega) (by omega)
        have k7 : IntKind.i64.wrap ((b_y - ay) * (cy - b_y)) = P2 := by rw [← hP2']; exact wrap_small (by omega) (by omega)
        have k8 : IntKind.i64.wrap (P1 + P2) = P1 + P2 := wrap_small (by omega) (by omega)
        clear hP1' hP2'
        have q0 := (hnx.cell (p := ⟨g2, k * 2, none⟩) hgw).trans d0
        have q1 := (hnx.cell (p := ⟨g2, k * 2 + 1, none⟩) hgw).trans d1
        have q2 := (hnx.cell (p := ⟨g2, k1 * 2, none⟩) hgw).trans d2
        have q3 := (hnx.cell (p := ⟨g2, k1 * 2 + 1, none⟩) hgw).trans d3
        have q4 := (hnx.cell (p := ⟨g2, z * 2, none⟩) hgw).trans d4
        have q5 := (hnx.cell (p := ⟨g2, z * 2 + 1, none⟩) hgw).trans d5
        have hgr : g2 < wr.heap.size := Nat.lt_of_lt_of_le hgw hnx.size
        have HZ : Hid (z = k + 2 ∧ k1 = k + 1) := ⟨hz, hk1⟩
        have HTR : Hid (¬ (crs ax ay bx b_y cx cy = 0 ∧ 0 < P1 + P2)) := TRI
        clear hz hk1 d0 d1 d2 d3 d4 d5 hk TRI
        obtain ⟨W, hW⟩ : ∃ W, W = ((wr.alloc (.cells #[.int .i64 ax, .int .i64 ay] 30)).alloc (.cells #[.int .i64 bx, .int .i64 b_y] 30)).alloc (.cells #[.int .i64 cx, .int .i64 cy] 30) := ⟨_, rfl⟩
        have b0 : W.heap[wr.heap.size]? = some (.cells #[.int .i64 ax, .int .i64 ay] 30) := by rw [hW]; exact blkAl (blkAl (newBlk rfl))
        have b1 : W.heap[wr.heap.size + 1]? = some (.cells #[.int .i64 bx, .int .i64 b_y] 30) := by rw [hW]; exact blkAl (newBlk (by simp))
        have b2 : W.heap[wr.heap.size + 1 + 1]? = some (.cells #[.int .i64 cx, .int .i64 cy] 30) := by rw [hW]; exact newBlk (by simp)
        have BW : Below wr.heap.size wr W := by rw [hW]; exact bw_alloc (bw_alloc (bw_alloc (bw_refl _) _) _) _
        have hTn := turn_any ax ay bx b_y cx cy W
        have eT : turnV ax ay bx b_y cx cy = tn ax ay bx b_y cx cy := by unfold turnV; rw [oA, oB, oC]; rfl
        rw [eT] at hTn
        clear eT
        by_cases hcr : crs ax ay bx b_y cx cy = 0
        · have e0 : tn ax ay bx b_y cx cy = 0 := by unfold tn cmpI; rw [hcr]; rfl
          rw [e0] at hTn
          have hd : ¬ (0 < P1 + P2) := fun h => HTR.out ⟨hcr, h⟩
          clear e0 hcr
          go_wp2_with fail
          rw [← hW]
          refine hTn.mono ?_
          rintro e v1 ⟨rfl, J⟩
          have B0 := keep J b0
          have B1 := keep J b1
          have B2 := keep J b2
          have hn1' := bw_trans hnx (bw_trans BW J)
          clear hW b0 b1 b2 BW J q0 q1 q2 q3 q4 q5 hTn
          generalize wr.heap.size = b6 at *
          obtain ⟨r0, r1⟩ := blk_2 B0
          obtain ⟨r2, r3⟩ := blk_2 B1
          obtain ⟨r4, r5⟩ := blk_2 B2
          go_wp2_with fail
          go_roundw
          case rel => exact ⟨k + 1, .inl (by have := HZ.out; omega), by have := HZ.out.1; subst this; simp; omega, hn1'⟩
          case measure => have := HZ.out.1; simp [intOf]; omega
        · have e0 : (tn ax ay bx b_y cx cy == 0) = false := by
            have : tn ax ay bx b_y cx cy ≠ 0 := by unfold tn cmpI; split; omega; split <;> omega
            simpa using this
          have e1 : (tn ax ay bx b_y cx cy = 0) = False := by simpa using e0
          generalize tn ax ay bx b_y cx cy = τ at *
          clear hcr
          go_wp2_with fail
          rw [← hW]
          refine hTn.mono ?_
          rintro e v1 ⟨rfl, J⟩
          have hn1' := bw_trans hnx (bw_trans BW J)
          clear hW b0 b1 b2 BW J q0 q1 q2 q3 q4 q5 hTn
          go_wp2_with fail
          go_roundw
          case rel => exact ⟨k + 1, .inl (by have := HZ.out; omega), by have := HZ.out.1; subst this; simp; omega, hn1'⟩
          case measure => have := HZ.out.1; simp [intOf]; omega
end Go.Proofs.Ytmoikmpbcdkidaa
