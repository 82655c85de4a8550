/-
  OUR OWN TEXT. The specification's path between turns, by contract, at whatever points.
-/
import Derived.Test.YtfdnadiliedikaaDoorSCodeU
import Derived.Test.YtfdnadiliedikaaDoorCodeM4
import Derived.Test.YtfdnadiliedikaaDoorAnyZ
import Derived.Test.YtfdnadiliedikaaDoorCells
namespace Go.Proofs.YtfdnadiliedikaaDoor
open Go.RowKit Go.Sort

/-- The path between turns that is handed back. -/
def stayR (t : List P2) : List P2 := if stayV t then stayL t else []
theorem stayR_len (t : List P2) : (stayR t).length ≤ 400 := by
  unfold stayR
  cases h : stayV t
  · simp
  · rw [if_pos rfl]; exact (stayV_parts h).2.2.2
def lenOf : Value → Nat
  | .slice _ k _ => k
  | _ => 0
theorem ptAt_take {l : List P2} {i k : Nat} (h : i < k) : ptAt (l.take k) i = ptAt l i := by unfold ptAt; rw [List.getElem?_take_of_lt h]
theorem sg1_zero' {x y : Int} (h : sg1 (x - y) = 0) : x = y := by
  unfold sg1 at h
  split at h
  · cases h
  · split at h
    · omega
    · cases h
set_option maxRecDepth 100000 in
set_option maxHeartbeats 4000000 in
theorem sStay_any (a : Option Addr) (np cp : Nat) (l : List P2) (w : World) (hn : np ≤ 1048576) (hP : Pts w.heap.size w a np l) :
    Calls Tryd.prog 48 #[.slice a np cp] w fun e W' => ∃ v, e = .returned (.tuple #[v, .bool (stayV l)]) ∧ AnsT w.heap.size W'.heap.size W' v (stayR l) ∧ Below w.heap.size w W' := by
  obtain ⟨i0, hi0, hz0, hz1, hz2⟩ := info_parts Tryd.infoPt
  have hmx : Tryd.prog.follows .mixedOrders = true := by kernel_rfl
  obtain ⟨hlen, hP⟩ := hP
  have HL : Hid (l.length = np) := hlen
  clear hlen
  have hF : ∀ (h : stayV l = false), Hid (stayV l = false ∧ stayR l = []) := fun h => ⟨h, by unfold stayR; rw [h]; rfl⟩
  have hIn := fun V => in_any np 1 400 V
  by_cases c1 : np = 0 ∨ 400 < np
  · have e1 := hF (stayV_len (by rw [HL.out]; omega))
    have e2 : inR np 1 400 = false := (inR_not _ _ _).2 (by omega)
    rw [e2] at hIn
    go_enter Tryd.func48, Tryd.ntmps48
    go_wp2_with fail
    refine (hIn _).mono ?_
    rintro e wq ⟨rfl, hq⟩
    rw [hq]
    clear hq wq
    go_wp2_with fail
    go_ret2
    exact ⟨_, by rw [e1.out.1]; rfl, .inl ⟨e1.out.2, _, _, rfl⟩, (by repeat (first | exact bw_refl _ | assumption | apply bw_drewN | apply bw_drew | apply bw_alloc | refine bw_set ?_ (by simp) _))⟩
  have e2 : inR np 1 400 = true := (inR_iff _ _ _).2 (by omega)
  rw [e2] at hIn
  rcases hP with h0 | ⟨g, off, rfl, hg, hc⟩
  · omega
  have HC : Hid (∀ j, j < np → w.cell? ⟨g, off + j * 2, none⟩ = some (.int .i64 (ptAt l j).1) ∧ w.cell? ⟨g, off + j * 2 + 1, none⟩ = some (.int .i64 (ptAt l j).2)) := hc
  obtain ⟨d0, d1⟩ := hc 0 (by omega)
  simp only [Nat.zero_mul, Nat.add_zero] at d0 d1
  have i1 : (0 : Int) < (np : Int) := by omega
  have hPt := sPt_any (ptAt l 0).1 (ptAt l 0).2
  clear hc
  cases hp0 : okP (ptAt l 0)
  · have e1 := hF (stayV_pt (i := 0) (by rw [HL.out]; omega) hp0)
    unfold okP at hp0
    rw [hp0] at hPt
    go_enter Tryd.func48, Tryd.ntmps48
    go_wp2_with fail
    refine (hIn _).mono ?_
    rintro e wq ⟨rfl, hq⟩
    rw [hq]
    clear hq wq
    go_wp2_with fail
    refine (hPt _).mono ?_
    rintro e w1 ⟨rfl, J⟩
    go_wp2_with fail
    go_ret2
    exact ⟨_, by rw [e1.out.1]; rfl, .inl ⟨e1.out.2, _, _, rfl⟩, bw_trans J (by repeat (first | exact bw_refl _ | assumption | apply bw_drewN | apply bw_drew | apply bw_alloc | refine bw_set ?_ (by simp) _))⟩
  have HP0 : Hid (okP (ptAt l 0) = true) := hp0
  unfold okP at hp0
  rw [hp0] at hPt
  go_enter Tryd.func48, Tryd.ntmps48
  go_wp2_with fail
  refine (hIn _).mono ?_
  rintro e wq ⟨rfl, hq⟩
  rw [hq]
  clear hq wq
  go_wp2_with fail
  refine (hPt _).mono ?_
  rintro e w1 ⟨rfl, J⟩
  obtain ⟨q0, q1⟩ := (⟨(J.cell (p := ⟨g, off, none⟩) hg).trans d0, (J.cell (p := ⟨g, off + 1, none⟩) hg).trans d1⟩ : _ ∧ _)
  go_wp2_with fail
  go_loopw [4, 5] (fun o i wr => ∃ k : Nat, 1 ≤ k ∧ k ≤ np ∧ i = .int .i64 k ∧ (∀ j, j < k → okP (ptAt l j) = true) ∧ (∀ j, j + 1 < k → inlP (ptAt l j) (ptAt l (j + 1)) = true) ∧ wr.ownsRow w.heap.size 42 2 o (stayL (l.take k)).length (ptCells (stayL (l.take k))) ∧ Below w.heap.size w wr) (fun _ i _ => np - (intOf i).toNat)
  case atStart => exact ⟨1, Nat.le_refl _, by omega, rfl, fun j hj => by obtain rfl : j = 0 := (by omega); exact HP0.out, fun j hj => absurd hj (by omega), by rw [stay_take1 (by rw [HL.out]; omega)]; exact own_lit (heap_new w1 _) J.size rfl (Nat.le_refl _) (by simp [maxLen]) rfl rfl, bw_alloc J _⟩
  case round =>
    obtain ⟨k, hk1, hk, rfl, hok, hin, hown, hnx⟩ := hrel
    obtain ⟨q, rfl⟩ : ∃ q, k = q + 1 := ⟨k - 1, by omega⟩
    have HOK : Hid (∀ j, j < q + 1 → okP (ptAt l j) = true) := hok
    have HIN : Hid (∀ j, j + 1 < q + 1 → inlP (ptAt l j) (ptAt l (j + 1)) = true) := hin
    have hlen : (stayL (l.take (q + 1))).length ≤ 9 * q + 1 := by
      have e0 := stay_len_take (t := l.take (q + 1)) (fun i hi => by rw [List.length_take] at hi; rw [ptAt_take (by omega)]; exact HOK.out i (by omega)) q (by rw [List.length_take, HL.out]; omega) (fun i hi => by rw [ptAt_take (by omega), ptAt_take (by omega)]; exact HIN.out i (by omega))
      rwa [List.take_take, Nat.min_self] at e0
    clear hok hin
    have hzz := hnx.size
    by_cases hlt : q + 1 < np
    case neg =>
      obtain rfl : np = q + 1 := by omega
      have et : l.take (q + 1) = l := List.take_of_length_le (by rw [HL.out]; exact Nat.le_refl _)
      rw [et] at hown hlen
      have hst : Hid (stayV l = decide ((stayL l).length ≤ 400)) := by
        change _ = _
        rw [Bool.eq_iff_iff, stayV_iff, decide_eq_true_eq, HL.out]
        exact ⟨fun h => h.2.2.2, fun h => ⟨by omega, HOK.out, HIN.out, h⟩⟩
      obtain ⟨n, hn'⟩ : ∃ n, n = (stayL l).length := ⟨_, rfl⟩
      rw [← hn'] at hown hst hlen
      have HN : Hid ((stayL l).length = n) := hn'.symm
      have hn1 : 1 ≤ n := by
        rw [hn']
        have e0 := stay_mono (t := l) (k := 1) (Nat.le_refl 1) q (by rw [HL.out]; omega)
        rw [stay_take1 (by rw [HL.out]; omega), Nat.add_comm 1 q, et] at e0
        exact e0
      clear hn' et
      obtain ⟨g2, c2, rfl, _, _⟩ := hown.form (by omega)
      by_cases h4 : 400 < n
      · have e1 := hF (by rw [hst.out]; exact decide_eq_false (by omega))
        have i5 : (400 : Int) < (n : Int) := by omega
        go_wp2_with fail
        go_ret2
        exact ⟨_, by rw [e1.out.1]; rfl, .inl ⟨e1.out.2, _, _, rfl⟩, bw_alloc hnx _⟩
      · have e1 : Hid (stayV l = true) := by change _ = _; rw [hst.out]; exact decide_eq_true (by omega)
        have e2 : Hid (stayR l = stayL l) := by change _ = _; unfold stayR; rw [e1.out]; rfl
        have i5 : ¬ (400 : Int) < (n : Int) := by omega
        go_wp2_with fail
        go_ret2
        exact ⟨_, by rw [e1.out]; rfl, by rw [e2.out]; exact AnsT.of_own hown HN.out, hnx⟩
    case pos =>
      obtain ⟨ax, hax⟩ : ∃ ax, ax = (ptAt l q).1 := ⟨_, rfl⟩
      obtain ⟨ay, hay⟩ : ∃ ay, ay = (ptAt l q).2 := ⟨_, rfl⟩
      obtain ⟨bx, hbx⟩ : ∃ bx, bx = (ptAt l (q + 1)).1 := ⟨_, rfl⟩
      obtain ⟨b_y, hby⟩ : ∃ b_y, b_y = (ptAt l (q + 1)).2 := ⟨_, rfl⟩
      have HA : Hid (ptAt l q = (ax, ay)) := by change _ = _; rw [hax, hay]
      have HB : Hid (ptAt l (q + 1) = (bx, b_y)) := by change _ = _; rw [hbx, hby]
      have j1 : IntKind.i64.wrap ((q : Int)) = (q : Int) := wrap_small (by omega) (by omega)
      have j2 : (0 : Int) ≤ (q : Int) := Int.natCast_nonneg _
      have j3 : (q : Int) + 1 < (np : Int) := by omega
      have j3' : (q : Int) < (np : Int) := by omega
      obtain ⟨d0, d1⟩ := HC.out (q + 1) hlt
      obtain ⟨d2, d3⟩ := HC.out q (by omega)
      rw [HB.out] at d0 d1
      rw [HA.out] at d2 d3
      simp only at d0 d1 d2 d3
      have p0 := (hnx.cell (p := ⟨g, off + (q + 1) * 2, none⟩) hg).trans d0
      have p1 := (hnx.cell (p := ⟨g, off + (q + 1) * 2 + 1, none⟩) hg).trans d1
      have p2 := ((bw_alloc hnx (.cells #[.int .i64 bx, .int .i64 b_y] 42)).cell (p := ⟨g, off + q * 2, none⟩) hg).trans d2
      have p3 := ((bw_alloc hnx (.cells #[.int .i64 bx, .int .i64 b_y] 42)).cell (p := ⟨g, off + q * 2 + 1, none⟩) hg).trans d3
      obtain ⟨V, hV, BV, T6, T7⟩ := boxes2 wr (.cells #[.int .i64 bx, .int .i64 b_y] 42) (.cells #[.int .i64 ax, .int .i64 ay] 42)
      have hnV := bw_trans hnx BV
      obtain ⟨t0, t1⟩ := blk_2 T6
      obtain ⟨t2, t3⟩ := blk_2 T7
      have hPtB := sPt_any bx b_y
      clear d0 d1 d2 d3 hax hay hbx hby
      cases hpb : ptB bx b_y
      · have e1 := hF (stayV_pt (i := q + 1) (by rw [HL.out]; exact hlt) (by rw [HB.out]; exact hpb))
        rw [hpb] at hPtB
        go_upto_region 9 with fail
        rw [← hV]
        clear hV
        go_wp2_with fail
        refine (hPtB _).mono ?_
        rintro e w2 ⟨rfl, J2⟩
        go_wp2_with fail
        go_ret2
        exact ⟨_, by rw [e1.out.1]; rfl, .inl ⟨e1.out.2, _, _, rfl⟩, bw_alloc (bw_trans hnV J2) _⟩
      rw [hpb] at hPtB
      go_upto_region 9 with fail
      rw [← hV]
      clear hV p0 p1 p2 p3
      go_wp2_with fail
      refine (hPtB _).mono ?_
      rintro e w2 ⟨rfl, J2⟩
      replace T6 := keep J2 T6
      replace T7 := keep J2 T7
      have hn2 := bw_trans hnV J2
      have hown2 := hown.kept (w' := w2) (row := none) ⟨(bw_trans BV J2).os, (bw_trans BV J2).tape, (bw_trans BV J2).output, (bw_trans BV J2).size, fun j hj _ => (bw_trans BV J2).block j hj⟩ (Classical.em _)
      clear t0 t1 t2 t3
      obtain ⟨t0, t1⟩ := blk_2 T6
      obtain ⟨t2, t3⟩ := blk_2 T7
      by_cases hx : bx = ax
      · by_cases hy : b_y = ay
        · have e1 := hF (stayV_inl (i := q) (by rw [HL.out]; exact hlt) (by rw [HA.out, HB.out, hx, hy]; simp [inlP]))
          subst hx hy
          go_wp2_with fail
          go_ret2
          exact ⟨_, by rw [e1.out.1]; rfl, .inl ⟨e1.out.2, _, _, rfl⟩, bw_alloc hn2 _⟩
        · have hil : inlP (ptAt l q) (ptAt l (q + 1)) = true := by rw [HA.out, HB.out, hx]; simp [inlP]; exact Ne.symm hy
          subst hx
          have y1 : (b_y == ay) = false := by simpa using hy
          have y2 : (b_y = ay) = False := by simpa using hy
          have y3 : (b_y != ay) = true := by unfold bne; rw [y1]; rfl
          clear hy
          obtain ⟨d, hd⟩ : ∃ d, d = wayP (ptAt l q) (ptAt l (q + 1)) := ⟨_, rfl⟩
          obtain ⟨n, hnn⟩ : ∃ n, n = distP (ptAt l q) (ptAt l (q + 1)) := ⟨_, rfl⟩
          obtain ⟨m, hm⟩ : ∃ m, m = (stayL (l.take (q + 1))).length := ⟨_, rfl⟩
          obtain ⟨d1, hd1⟩ : ∃ d1, d1 = d.1 := ⟨_, rfl⟩
          obtain ⟨d2, hd2⟩ : ∃ d2, d2 = d.2 := ⟨_, rfl⟩
          have HD : Hid (d.1 = d1 ∧ d.2 = d2) := ⟨hd1.symm, hd2.symm⟩
          have HD0 : Hid (d = wayP (ptAt l q) (ptAt l (q + 1)) ∧ n = distP (ptAt l q) (ptAt l (q + 1))) := ⟨hd, hnn⟩
          have hoq := HOK.out q (by omega)
          have hoB : okP (ptAt l (q + 1)) = true := by rw [HB.out]; exact hpb
          have HLEG : Hid (∀ j, j < n → wayP (addP (ptAt l q) d j) (bx, b_y) = d ∧ addP (ptAt l q) d j ≠ (bx, b_y)) := fun j hj => by rw [hd, ← HB.out]; exact leg_at hil (by rw [← hnn]; exact hj)
          have HBD : Hid (∀ j, j ≤ n → okP (addP (ptAt l q) d j) = true) := fun j hj => by rw [hd]; exact leg_bd hil hoq hoB (by rw [← hnn]; exact hj)
          have HEND : Hid (addP (ptAt l q) d n = (bx, b_y)) := by change _ = _; rw [hd, hnn, leg_end hil, HB.out]
          have hn9 : n ≤ 9 := by rw [hnn]; exact distP_ok hoq hoB hil
          have hun := (inlP_unit hil).1
          rw [← hd] at hun
          have hdb : (-1 ≤ d1 ∧ d1 ≤ 1) ∧ (-1 ≤ d2 ∧ d2 ≤ 1) := by rw [hd1, hd2]; rcases hun with h | h | h | h <;> rw [h] <;> simp
          have hdz : d1 = 0 := by rw [hd1, hd, HA.out, HB.out]; simp [wayP, sg1]
          have HIL : Hid (inlP (ptAt l q) (ptAt l (q + 1)) = true) := hil
          obtain ⟨⟨db1, db2⟩, db3, db4⟩ := hdb
          have hob : ∀ b, u4.ownBlock = some b → b ≠ wr.heap.size ∧ b ≠ wr.heap.size + 1 := fun b e => by have := (hown.lt b e).2; omega
          rw [← hm] at hown2 hlen
          have HM : Hid ((stayL (l.take (q + 1))).length = m) := hm.symm
          have hm1 : 1 ≤ m := by
            rw [hm]
            have e0 := stay_mono (t := l) (k := 1) (Nat.le_refl 1) q (by rw [HL.out]; omega)
            rw [stay_take1 (by rw [HL.out]; omega), Nat.add_comm 1 q] at e0
            exact e0
          have hpb' := (ptB_iff _ _).1 hpb
          obtain ⟨bb0, bb1, bb2, bb3⟩ := hpb'
          clear hown hm hd hnn hd1 hd2 hil hun hoq hoB BV hnV J2 hnx
          generalize wr.heap.size = b6 at *
          go_wp2_with fail
          go_loopw [4] (fun o wr => ∃ j : Nat, j ≤ n ∧ wr.ownsRow w.heap.size 42 2 o (m + j) (ptCells (stayL (l.take (q + 1)) ++ lineL (ptAt l q) d j)) ∧ (∀ b, o.ownBlock = some b → b ≠ b6 ∧ b ≠ b6 + 1) ∧ wr.heap[b6 + 1]? = some (.cells #[.int .i64 (addP (ptAt l q) d j).1, .int .i64 (addP (ptAt l q) d j).2] 42) ∧ wr.heap[b6]? = some (.cells #[.int .i64 bx, .int .i64 b_y] 42) ∧ Below w.heap.size w wr) (fun o _ => m + n - lenOf o)
          case atStart => exact ⟨0, Nat.zero_le _, by rw [show lineL (ptAt l q) d 0 = [] from rfl, List.append_nil]; exact hown2, hob, by rw [addP_zero, HA.out]; exact T7, T6, hn2⟩
          case round =>
            obtain ⟨j, hj, hown', hob', M7, M6, nz⟩ := hrel
            obtain ⟨g2, c2, rfl, _, _⟩ := hown'.form (by omega)
            have ztz := nz.size
            have zM7 := blk_lt M7
            by_cases hjn : j < n
            case neg =>
              obtain rfl : j = n := by omega
              rw [HEND.out] at M7
              obtain ⟨s1, s2⟩ := blk_2 M7
              obtain ⟨s3, s4⟩ := blk_2 M6
              go_wp2_with fail
              go_roundw
              case rel =>
                refine ⟨q + 1 + 1, by omega, by omega, by simp, ?_, ?_, ?_, nz⟩
                · intro j' hj'
                  rcases Nat.lt_or_ge j' (q + 1) with h | h
                  · exact HOK.out j' h
                  · obtain rfl : j' = q + 1 := (by omega)
                    rw [HB.out]; exact hpb
                · intro j' hj'
                  rcases Nat.lt_or_ge (j' + 1) (q + 1) with h | h
                  · exact HIN.out j' h
                  · obtain rfl : j' = q := (by omega)
                    exact HIL.out
                · have es : stayL (l.take (q + 1 + 1)) = stayL (l.take (q + 1)) ++ lineL (ptAt l q) d j := by
                    rw [stay_take (by rw [HL.out]; exact hlt), HD0.out.1, HD0.out.2]; rfl
                  rw [es, List.length_append, lineL_len, HM.out]
                  exact hown'
              case measure => simp [intOf]; omega
            case pos =>
              obtain ⟨ux, hux⟩ : ∃ ux, ux = (addP (ptAt l q) d j).1 := ⟨_, rfl⟩
              obtain ⟨uy, huy⟩ : ∃ uy, uy = (addP (ptAt l q) d j).2 := ⟨_, rfl⟩
              have HU : Hid (addP (ptAt l q) d j = (ux, uy)) := by change _ = _; rw [hux, huy]
              obtain ⟨hw, hne⟩ := HLEG.out j hjn
              have hbu := HBD.out j (by omega)
              rw [HU.out] at hw hne hbu
              rw [← hux, ← huy] at M7
              have hbu := (ptB_iff _ _).1 hbu
              simp only at hbu
              obtain ⟨a0, a1, a2, a3⟩ := hbu
              have hd1 : cmpI (bx - ux) 0 = d1 := by rw [sg1_cmp, ← HD.out.1, ← hw]; rfl
              have hd2 : cmpI (b_y - uy) 0 = d2 := by rw [sg1_cmp, ← HD.out.2, ← hw]; rfl
              have L1 : Hid (∀ V, Calls Tryd.prog 69 #[.int .i64 (bx - ux)] V fun e w' => e = .returned (.int .i64 d1) ∧ Below V.heap.size V w') := fun V => by have := sSign_any (bx - ux) V; rwa [hd1] at this
              have L2 : Hid (∀ V, Calls Tryd.prog 69 #[.int .i64 (b_y - uy)] V fun e w' => e = .returned (.int .i64 d2) ∧ Below V.heap.size V w') := fun V => by have := sSign_any (b_y - uy) V; rwa [hd2] at this
              have k1 : IntKind.i64.wrap (bx - ux) = bx - ux := wrap_small (by omega) (by omega)
              have k2 : IntKind.i64.wrap (b_y - uy) = b_y - uy := wrap_small (by omega) (by omega)
              have k3 : IntKind.i64.wrap (ux + d1) = ux + d1 := wrap_small (by omega) (by omega)
              have k4 : IntKind.i64.wrap (uy + d2) = uy + d2 := wrap_small (by omega) (by omega)
              have hux0 := hux
              clear hux huy
              have hux' : ux = bx := by
                have h0 := HD.out.1
                rw [hdz, ← hw] at h0
                exact (sg1_zero' h0).symm
              have hne'' : ¬ (uy = b_y) := fun h => hne (by rw [h, hux'])
              have x4 : (uy == b_y) = false := by simpa using hne''
              have x5 : (uy = b_y) = False := by simpa using hne''
              have x6 : (uy != b_y) = true := by unfold bne; rw [x4]; rfl
              clear hux0 hw hne hne'' hd1 hd2 hdz
              have x7 : (ux == bx) = true := by simpa using hux'
              have x8 : (ux = bx) = True := by simpa using hux'
              have x9 : (ux != bx) = false := by unfold bne; rw [x7]; rfl
              clear hux'
              obtain ⟨s1, s2⟩ := blk_2 M7
              obtain ⟨s3, s4⟩ := blk_2 M6
              have hS0 : wr.drew.cell? ⟨b6 + 1, 0, none⟩ = some (.int .i64 ux) ∧ wr.drew.cell? ⟨b6 + 1, 1, none⟩ = some (.int .i64 uy) ∧ wr.drew.cell? ⟨b6, 0, none⟩ = some (.int .i64 bx) ∧ wr.drew.cell? ⟨b6, 1, none⟩ = some (.int .i64 b_y) := ⟨s1, s2, s3, s4⟩
              go_upto_region 12 with fail
              clear s1 s2 s3 s4
              refine wp_region_Z (z := 19) (S := fun u : World => u.cell? ⟨b6 + 1, 0, none⟩ = some (.int .i64 ux) ∧ u.cell? ⟨b6 + 1, 1, none⟩ = some (.int .i64 uy) ∧ u.cell? ⟨b6, 0, none⟩ = some (.int .i64 bx) ∧ u.cell? ⟨b6, 1, none⟩ = some (.int .i64 b_y)) hmx ?_
              refine wpAnyZ_take (i := 0) (v := .pointer (some ⟨b6 + 1, 0, none⟩)) rfl rfl (by kernel_rfl) (by kernel_rfl) (by kernel_rfl) (by kernel_rfl) (fun _ _ _ h => h) (Or.inl ⟨by rfl, by rintro w' ⟨s1, s2, s3, s4⟩; go_simp⟩) hS0 ?_
              refine wpAnyZ_take (i := 1) (v := .int .i64 (ux)) rfl rfl (by kernel_rfl) (by kernel_rfl) (by kernel_rfl) (by kernel_rfl) (fun _ _ _ h => h) (Or.inl ⟨by rfl, by rintro w' ⟨s1, s2, s3, s4⟩; go_simp⟩) hS0 ?_
              refine wpAnyZ_take (i := 2) (v := .pointer (some ⟨b6, 0, none⟩)) rfl rfl (by kernel_rfl) (by kernel_rfl) (by kernel_rfl) (by kernel_rfl) (fun _ _ _ h => h) (Or.inl ⟨by rfl, by rintro w' ⟨s1, s2, s3, s4⟩; go_simp⟩) hS0 ?_
              refine wpAnyZ_take (i := 3) (v := .int .i64 (bx)) rfl rfl (by kernel_rfl) (by kernel_rfl) (by kernel_rfl) (by kernel_rfl) (fun _ _ _ h => h) (Or.inl ⟨by rfl, by rintro w' ⟨s1, s2, s3, s4⟩; go_simp⟩) hS0 ?_
              refine wpAnyZ_take (i := 4) (v := .pointer (some ⟨b6 + 1, 0, none⟩)) rfl rfl (by kernel_rfl) (by kernel_rfl) (by kernel_rfl) (by kernel_rfl) (fun _ _ _ h => h) (Or.inl ⟨by rfl, by rintro w' ⟨s1, s2, s3, s4⟩; go_simp⟩) hS0 ?_
              refine wpAnyZ_take (i := 5) (v := .int .i64 (ux)) rfl rfl (by kernel_rfl) (by kernel_rfl) (by kernel_rfl) (by kernel_rfl) (fun _ _ _ h => h) (Or.inl ⟨by rfl, by rintro w' ⟨s1, s2, s3, s4⟩; go_simp⟩) hS0 ?_
              refine wpAnyZ_take (i := 6) (v := .int .i64 (bx - ux)) rfl rfl (by kernel_rfl) (by kernel_rfl) (by kernel_rfl) (by kernel_rfl) (fun _ _ _ h => h) (Or.inl ⟨by rfl, by rintro w' ⟨s1, s2, s3, s4⟩; go_simp⟩) hS0 ?_
              refine wpAnyZ_take (i := 9) (v := .pointer (some ⟨b6 + 1, 1, none⟩)) rfl rfl (by kernel_rfl) (by kernel_rfl) (by kernel_rfl) (by kernel_rfl) (fun _ _ _ h => h) (Or.inl ⟨by rfl, by rintro w' ⟨s1, s2, s3, s4⟩; go_simp⟩) hS0 ?_
              refine wpAnyZ_take (i := 10) (v := .int .i64 (uy)) rfl rfl (by kernel_rfl) (by kernel_rfl) (by kernel_rfl) (by kernel_rfl) (fun _ _ _ h => h) (Or.inl ⟨by rfl, by rintro w' ⟨s1, s2, s3, s4⟩; go_simp⟩) hS0 ?_
              refine wpAnyZ_take (i := 11) (v := .pointer (some ⟨b6, 1, none⟩)) rfl rfl (by kernel_rfl) (by kernel_rfl) (by kernel_rfl) (by kernel_rfl) (fun _ _ _ h => h) (Or.inl ⟨by rfl, by rintro w' ⟨s1, s2, s3, s4⟩; go_simp⟩) hS0 ?_
              refine wpAnyZ_take (i := 12) (v := .int .i64 (b_y)) rfl rfl (by kernel_rfl) (by kernel_rfl) (by kernel_rfl) (by kernel_rfl) (fun _ _ _ h => h) (Or.inl ⟨by rfl, by rintro w' ⟨s1, s2, s3, s4⟩; go_simp⟩) hS0 ?_
              refine wpAnyZ_take (i := 13) (v := .pointer (some ⟨b6 + 1, 1, none⟩)) rfl rfl (by kernel_rfl) (by kernel_rfl) (by kernel_rfl) (by kernel_rfl) (fun _ _ _ h => h) (Or.inl ⟨by rfl, by rintro w' ⟨s1, s2, s3, s4⟩; go_simp⟩) hS0 ?_
              refine wpAnyZ_take (i := 14) (v := .int .i64 (uy)) rfl rfl (by kernel_rfl) (by kernel_rfl) (by kernel_rfl) (by kernel_rfl) (fun _ _ _ h => h) (Or.inl ⟨by rfl, by rintro w' ⟨s1, s2, s3, s4⟩; go_simp⟩) hS0 ?_
              refine wpAnyZ_take (i := 15) (v := .int .i64 (b_y - uy)) rfl rfl (by kernel_rfl) (by kernel_rfl) (by kernel_rfl) (by kernel_rfl) (fun _ _ _ h => h) (Or.inl ⟨by rfl, by rintro w' ⟨s1, s2, s3, s4⟩; go_simp⟩) hS0 ?_
              refine wpAnyZ_one (i := 7) (by kernel_rfl) rfl rfl ?_
              go_simp
              refine (L1.out _).mono ?_
              rintro e v1 ⟨rfl, K1⟩
              go_simp
              have hS1 := cB4 K1 hS0
              refine ⟨hS1, ?_⟩
              refine wpAnyZ_take (i := 8) (v := .int .i64 (ux + d1)) rfl rfl (by kernel_rfl) (by kernel_rfl) (by kernel_rfl) (by kernel_rfl) (fun _ _ _ h => h) (Or.inl ⟨by rfl, by rintro w' ⟨s1, s2, s3, s4⟩; go_simp⟩) hS1 ?_
              refine wpAnyZ_one (i := 16) (by kernel_rfl) rfl rfl ?_
              go_simp
              refine (L2.out _).mono ?_
              rintro e v2 ⟨rfl, K2⟩
              go_simp
              have hS2 := cB4 K2 hS1
              refine ⟨hS2, ?_⟩
              refine wpAnyZ_take (i := 17) (v := .int .i64 (uy + d2)) rfl rfl (by kernel_rfl) (by kernel_rfl) (by kernel_rfl) (by kernel_rfl) (fun _ _ _ h => h) (Or.inl ⟨by rfl, by rintro w' ⟨s1, s2, s3, s4⟩; go_simp⟩) hS2 ?_
              refine wpAnyZ_take (i := 18) (v := .agg #[.int .i64 (ux + d1), .int .i64 (uy + d2)]) rfl rfl (by kernel_rfl) (by kernel_rfl) (by kernel_rfl) (by kernel_rfl) (fun _ _ _ h => h) (Or.inl ⟨by rfl, by rintro w' ⟨s1, s2, s3, s4⟩; go_simp⟩) hS2 ?_
              have KK := bw_trans (show Below wr.heap.size wr wr.drew from bw_drew (bw_refl _)) (bw_trans K1 K2)
              replace M7 := keep KK M7
              replace M6 := keep KK M6
              have hownv := hown'.kept (w' := v2) (row := none) ⟨KK.os, KK.tape, KK.output, KK.size, fun j hj _ => KK.block j hj⟩ (Classical.em _)
              have nv2 := bw_trans nz KK
              obtain ⟨y0, y1, y2, y3⟩ := blk2 M7
              refine wpAnyZ_one (i := 19) (by kernel_rfl) rfl rfl ?_
              go_simp
              refine wpAnyZ_done (by kernel_rfl) ?_
              try simp only [Exit.then]
              obtain ⟨Wf, hWf⟩ : ∃ Wf, Wf = (v2.setCell ⟨b6 + 1, 0, none⟩ (.int .i64 (ux + d1))).setCell ⟨b6 + 1, 1, none⟩ (.int .i64 (uy + d2)) := ⟨_, rfl⟩
              have zv2 := nv2.size
              have N7 : Wf.heap[b6 + 1]? = some (.cells #[.int .i64 (ux+d1), .int .i64 (uy+d2)] 42) := by rw [hWf, setCell_row (setCell_row M7 _) _]; rfl
              have N6 : Wf.heap[b6]? = some (.cells #[.int .i64 bx, .int .i64 b_y] 42) := by rw [hWf]; exact set_oth (set_oth M6 (by omega)) (by omega)
              have Gf : v2.grownBy Wf (some (b6 + 1)) := by
                rw [hWf]
                refine ⟨rfl, rfl, rfl, by simp, fun k hk hne => ?_⟩
                have hkne : k ≠ b6 + 1 := fun e => hne (by rw [e])
                rw [Below.heap_setCell _ _ _ _ (by show k ≠ b6 + 1; exact hkne), Below.heap_setCell _ _ _ _ (by show k ≠ b6 + 1; exact hkne)]
              have hob2 := hob' g2 rfl
              have hownf := hownv.kept Gf (.inr (fun e => hob2.2 (Option.some.inj e)))
              have nf : Below w.heap.size w Wf := by rw [hWf]; exact bw_set (bw_set nv2 (by dsimp only; omega) _) (by dsimp only; omega) _
              have zf := nf.size
              have zN7 := blk_lt N7
              rw [← hWf]
              clear hWf M6 M7 y0 y1 y2 y3 hownv Gf K1 K2 KK hS0 hS1 hS2
              obtain ⟨p0, p1⟩ := blk_2 N7
              have HS : Hid (addP (ptAt l q) d (j + 1) = (ux + d1, uy + d2)) := by
                change _ = _
                rw [← addP_one, HU.out, HD.out.1, HD.out.2]
              go_wp2_with (at_builtin; refine wpList_append_lies _ rfl _ _ _ rfl w.heap.size 42 i0 _ 2 16 Tryd.underlying23 hi0 hz0 hz1 hz2 rfl (by omega) _ _ _ rfl (hownf.alloc _) ⟨Wf.heap.size, 0, none⟩ 1 1 [.int .i64 (ux + d1), .int .i64 (uy + d2)] rfl rfl (World.news_of_block (cs := #[.int .i64 (ux + d1), .int .i64 (uy + d2)]) (t := 42) (fr := (0, 0)) (heap_alloc_new Wf _)) (by simp [Value.oneCell']) (by omega) (by simp [maxLen]; omega) (by omega) (by simp; omega) (Wf.heap.size + 1) (by simp) ?_; intro gg cap' w8 hown1 hgrow hat hlt1)
              go_roundw
              case rel =>
                have keepBlk : ∀ b o, Wf.heap[b]? = some o → b ≠ g2 → w8.heap[b]? = some o := fun b o hb hbn => (hgrow.block b (by have := blk_lt hb; simp; omega) (fun e => hbn (Option.some.inj e))).trans ((Below.heap_alloc _ _ _ (blk_lt hb)).trans hb)
                refine ⟨j + 1, by omega, ?_, ?_, ?_, keepBlk _ _ N6 (Ne.symm hob2.1), (nf.alloc nf.size _).grown hgrow (by simp; omega) (fun k e => (hownf.lt k e).1)⟩
                · have e1 : ptCells (stayL (l.take (q + 1)) ++ lineL (ptAt l q) d (j + 1)) = ptCells (stayL (l.take (q + 1)) ++ lineL (ptAt l q) d j) ++ [.int .i64 (ux + d1), .int .i64 (uy + d2)] := by
                    rw [lineL_snoc, HS.out, ← List.append_assoc, ptCells_snoc]
                  rw [e1]
                  exact hown1
                · intro b e
                  rcases hat with h | h
                  · obtain rfl : g2 = gg := Option.some.inj h
                    obtain rfl : g2 = b := Option.some.inj e
                    exact hob2
                  · obtain rfl : gg = b := Option.some.inj e
                    omega
                · rw [HS.out]; exact keepBlk _ _ N7 (Ne.symm hob2.2)
              case measure => simp [lenOf]; omega
      · have x1 : (bx == ax) = false := by simpa using hx
        have x2 : (bx = ax) = False := by simpa using hx
        have x3 : (bx != ax) = true := by unfold bne; rw [x1]; rfl
        by_cases hy : b_y = ay
        · have hil : inlP (ptAt l q) (ptAt l (q + 1)) = true := by rw [HA.out, HB.out, hy]; simp [inlP]; exact fun h => hx h.symm
          subst hy
          clear hx
          obtain ⟨d, hd⟩ : ∃ d, d = wayP (ptAt l q) (ptAt l (q + 1)) := ⟨_, rfl⟩
          obtain ⟨n, hnn⟩ : ∃ n, n = distP (ptAt l q) (ptAt l (q + 1)) := ⟨_, rfl⟩
          obtain ⟨m, hm⟩ : ∃ m, m = (stayL (l.take (q + 1))).length := ⟨_, rfl⟩
          obtain ⟨d1, hd1⟩ : ∃ d1, d1 = d.1 := ⟨_, rfl⟩
          obtain ⟨d2, hd2⟩ : ∃ d2, d2 = d.2 := ⟨_, rfl⟩
          have HD : Hid (d.1 = d1 ∧ d.2 = d2) := ⟨hd1.symm, hd2.symm⟩
          have HD0 : Hid (d = wayP (ptAt l q) (ptAt l (q + 1)) ∧ n = distP (ptAt l q) (ptAt l (q + 1))) := ⟨hd, hnn⟩
          have hoq := HOK.out q (by omega)
          have hoB : okP (ptAt l (q + 1)) = true := by rw [HB.out]; exact hpb
          have HLEG : Hid (∀ j, j < n → wayP (addP (ptAt l q) d j) (bx, b_y) = d ∧ addP (ptAt l q) d j ≠ (bx, b_y)) := fun j hj => by rw [hd, ← HB.out]; exact leg_at hil (by rw [← hnn]; exact hj)
          have HBD : Hid (∀ j, j ≤ n → okP (addP (ptAt l q) d j) = true) := fun j hj => by rw [hd]; exact leg_bd hil hoq hoB (by rw [← hnn]; exact hj)
          have HEND : Hid (addP (ptAt l q) d n = (bx, b_y)) := by change _ = _; rw [hd, hnn, leg_end hil, HB.out]
          have hn9 : n ≤ 9 := by rw [hnn]; exact distP_ok hoq hoB hil
          have hun := (inlP_unit hil).1
          rw [← hd] at hun
          have hdb : (-1 ≤ d1 ∧ d1 ≤ 1) ∧ (-1 ≤ d2 ∧ d2 ≤ 1) := by rw [hd1, hd2]; rcases hun with h | h | h | h <;> rw [h] <;> simp
          have hdz : d2 = 0 := by rw [hd2, hd, HA.out, HB.out]; simp [wayP, sg1]
          have HIL : Hid (inlP (ptAt l q) (ptAt l (q + 1)) = true) := hil
          obtain ⟨⟨db1, db2⟩, db3, db4⟩ := hdb
          have hob : ∀ b, u4.ownBlock = some b → b ≠ wr.heap.size ∧ b ≠ wr.heap.size + 1 := fun b e => by have := (hown.lt b e).2; omega
          rw [← hm] at hown2 hlen
          have HM : Hid ((stayL (l.take (q + 1))).length = m) := hm.symm
          have hm1 : 1 ≤ m := by
            rw [hm]
            have e0 := stay_mono (t := l) (k := 1) (Nat.le_refl 1) q (by rw [HL.out]; omega)
            rw [stay_take1 (by rw [HL.out]; omega), Nat.add_comm 1 q] at e0
            exact e0
          have hpb' := (ptB_iff _ _).1 hpb
          obtain ⟨bb0, bb1, bb2, bb3⟩ := hpb'
          clear hown hm hd hnn hd1 hd2 hil hun hoq hoB BV hnV J2 hnx
          generalize wr.heap.size = b6 at *
          go_wp2_with fail
          go_loopw [4] (fun o wr => ∃ j : Nat, j ≤ n ∧ wr.ownsRow w.heap.size 42 2 o (m + j) (ptCells (stayL (l.take (q + 1)) ++ lineL (ptAt l q) d j)) ∧ (∀ b, o.ownBlock = some b → b ≠ b6 ∧ b ≠ b6 + 1) ∧ wr.heap[b6 + 1]? = some (.cells #[.int .i64 (addP (ptAt l q) d j).1, .int .i64 (addP (ptAt l q) d j).2] 42) ∧ wr.heap[b6]? = some (.cells #[.int .i64 bx, .int .i64 b_y] 42) ∧ Below w.heap.size w wr) (fun o _ => m + n - lenOf o)
          case atStart => exact ⟨0, Nat.zero_le _, by rw [show lineL (ptAt l q) d 0 = [] from rfl, List.append_nil]; exact hown2, hob, by rw [addP_zero, HA.out]; exact T7, T6, hn2⟩
          case round =>
            obtain ⟨j, hj, hown', hob', M7, M6, nz⟩ := hrel
            obtain ⟨g2, c2, rfl, _, _⟩ := hown'.form (by omega)
            have ztz := nz.size
            have zM7 := blk_lt M7
            by_cases hjn : j < n
            case neg =>
              obtain rfl : j = n := by omega
              rw [HEND.out] at M7
              obtain ⟨s1, s2⟩ := blk_2 M7
              obtain ⟨s3, s4⟩ := blk_2 M6
              go_wp2_with fail
              go_roundw
              case rel =>
                refine ⟨q + 1 + 1, by omega, by omega, by simp, ?_, ?_, ?_, nz⟩
                · intro j' hj'
                  rcases Nat.lt_or_ge j' (q + 1) with h | h
                  · exact HOK.out j' h
                  · obtain rfl : j' = q + 1 := (by omega)
                    rw [HB.out]; exact hpb
                · intro j' hj'
                  rcases Nat.lt_or_ge (j' + 1) (q + 1) with h | h
                  · exact HIN.out j' h
                  · obtain rfl : j' = q := (by omega)
                    exact HIL.out
                · have es : stayL (l.take (q + 1 + 1)) = stayL (l.take (q + 1)) ++ lineL (ptAt l q) d j := by
                    rw [stay_take (by rw [HL.out]; exact hlt), HD0.out.1, HD0.out.2]; rfl
                  rw [es, List.length_append, lineL_len, HM.out]
                  exact hown'
              case measure => simp [intOf]; omega
            case pos =>
              obtain ⟨ux, hux⟩ : ∃ ux, ux = (addP (ptAt l q) d j).1 := ⟨_, rfl⟩
              obtain ⟨uy, huy⟩ : ∃ uy, uy = (addP (ptAt l q) d j).2 := ⟨_, rfl⟩
              have HU : Hid (addP (ptAt l q) d j = (ux, uy)) := by change _ = _; rw [hux, huy]
              obtain ⟨hw, hne⟩ := HLEG.out j hjn
              have hbu := HBD.out j (by omega)
              rw [HU.out] at hw hne hbu
              rw [← hux, ← huy] at M7
              have hbu := (ptB_iff _ _).1 hbu
              simp only at hbu
              obtain ⟨a0, a1, a2, a3⟩ := hbu
              have hd1 : cmpI (bx - ux) 0 = d1 := by rw [sg1_cmp, ← HD.out.1, ← hw]; rfl
              have hd2 : cmpI (b_y - uy) 0 = d2 := by rw [sg1_cmp, ← HD.out.2, ← hw]; rfl
              have L1 : Hid (∀ V, Calls Tryd.prog 69 #[.int .i64 (bx - ux)] V fun e w' => e = .returned (.int .i64 d1) ∧ Below V.heap.size V w') := fun V => by have := sSign_any (bx - ux) V; rwa [hd1] at this
              have L2 : Hid (∀ V, Calls Tryd.prog 69 #[.int .i64 (b_y - uy)] V fun e w' => e = .returned (.int .i64 d2) ∧ Below V.heap.size V w') := fun V => by have := sSign_any (b_y - uy) V; rwa [hd2] at this
              have k1 : IntKind.i64.wrap (bx - ux) = bx - ux := wrap_small (by omega) (by omega)
              have k2 : IntKind.i64.wrap (b_y - uy) = b_y - uy := wrap_small (by omega) (by omega)
              have k3 : IntKind.i64.wrap (ux + d1) = ux + d1 := wrap_small (by omega) (by omega)
              have k4 : IntKind.i64.wrap (uy + d2) = uy + d2 := wrap_small (by omega) (by omega)
              have hux0 := hux
              clear hux huy
              have huy : uy = b_y := by
                have h0 := HD.out.2
                rw [hdz, ← hw] at h0
                exact (sg1_zero' h0).symm
              have hne'' : ¬ (ux = bx) := fun h => hne (by rw [h, huy])
              have x4 : (ux == bx) = false := by simpa using hne''
              have x5 : (ux = bx) = False := by simpa using hne''
              have x6 : (ux != bx) = true := by unfold bne; rw [x4]; rfl
              clear hux0 hw hne hne'' hd1 hd2 hdz
              have x7 : (uy == b_y) = true := by simpa using huy
              have x8 : (uy = b_y) = True := by simpa using huy
              have x9 : (uy != b_y) = false := by unfold bne; rw [x7]; rfl
              clear huy
              obtain ⟨s1, s2⟩ := blk_2 M7
              obtain ⟨s3, s4⟩ := blk_2 M6
              have hS0 : wr.drew.cell? ⟨b6 + 1, 0, none⟩ = some (.int .i64 ux) ∧ wr.drew.cell? ⟨b6 + 1, 1, none⟩ = some (.int .i64 uy) ∧ wr.drew.cell? ⟨b6, 0, none⟩ = some (.int .i64 bx) ∧ wr.drew.cell? ⟨b6, 1, none⟩ = some (.int .i64 b_y) := ⟨s1, s2, s3, s4⟩
              go_upto_region 12 with fail
              clear s1 s2 s3 s4
              refine wp_region_Z (z := 19) (S := fun u : World => u.cell? ⟨b6 + 1, 0, none⟩ = some (.int .i64 ux) ∧ u.cell? ⟨b6 + 1, 1, none⟩ = some (.int .i64 uy) ∧ u.cell? ⟨b6, 0, none⟩ = some (.int .i64 bx) ∧ u.cell? ⟨b6, 1, none⟩ = some (.int .i64 b_y)) hmx ?_
              refine wpAnyZ_take (i := 0) (v := .pointer (some ⟨b6 + 1, 0, none⟩)) rfl rfl (by kernel_rfl) (by kernel_rfl) (by kernel_rfl) (by kernel_rfl) (fun _ _ _ h => h) (Or.inl ⟨by rfl, by rintro w' ⟨s1, s2, s3, s4⟩; go_simp⟩) hS0 ?_
              refine wpAnyZ_take (i := 1) (v := .int .i64 (ux)) rfl rfl (by kernel_rfl) (by kernel_rfl) (by kernel_rfl) (by kernel_rfl) (fun _ _ _ h => h) (Or.inl ⟨by rfl, by rintro w' ⟨s1, s2, s3, s4⟩; go_simp⟩) hS0 ?_
              refine wpAnyZ_take (i := 2) (v := .pointer (some ⟨b6, 0, none⟩)) rfl rfl (by kernel_rfl) (by kernel_rfl) (by kernel_rfl) (by kernel_rfl) (fun _ _ _ h => h) (Or.inl ⟨by rfl, by rintro w' ⟨s1, s2, s3, s4⟩; go_simp⟩) hS0 ?_
              refine wpAnyZ_take (i := 3) (v := .int .i64 (bx)) rfl rfl (by kernel_rfl) (by kernel_rfl) (by kernel_rfl) (by kernel_rfl) (fun _ _ _ h => h) (Or.inl ⟨by rfl, by rintro w' ⟨s1, s2, s3, s4⟩; go_simp⟩) hS0 ?_
              refine wpAnyZ_take (i := 4) (v := .pointer (some ⟨b6 + 1, 0, none⟩)) rfl rfl (by kernel_rfl) (by kernel_rfl) (by kernel_rfl) (by kernel_rfl) (fun _ _ _ h => h) (Or.inl ⟨by rfl, by rintro w' ⟨s1, s2, s3, s4⟩; go_simp⟩) hS0 ?_
              refine wpAnyZ_take (i := 5) (v := .int .i64 (ux)) rfl rfl (by kernel_rfl) (by kernel_rfl) (by kernel_rfl) (by kernel_rfl) (fun _ _ _ h => h) (Or.inl ⟨by rfl, by rintro w' ⟨s1, s2, s3, s4⟩; go_simp⟩) hS0 ?_
              refine wpAnyZ_take (i := 6) (v := .int .i64 (bx - ux)) rfl rfl (by kernel_rfl) (by kernel_rfl) (by kernel_rfl) (by kernel_rfl) (fun _ _ _ h => h) (Or.inl ⟨by rfl, by rintro w' ⟨s1, s2, s3, s4⟩; go_simp⟩) hS0 ?_
              refine wpAnyZ_take (i := 9) (v := .pointer (some ⟨b6 + 1, 1, none⟩)) rfl rfl (by kernel_rfl) (by kernel_rfl) (by kernel_rfl) (by kernel_rfl) (fun _ _ _ h => h) (Or.inl ⟨by rfl, by rintro w' ⟨s1, s2, s3, s4⟩; go_simp⟩) hS0 ?_
              refine wpAnyZ_take (i := 10) (v := .int .i64 (uy)) rfl rfl (by kernel_rfl) (by kernel_rfl) (by kernel_rfl) (by kernel_rfl) (fun _ _ _ h => h) (Or.inl ⟨by rfl, by rintro w' ⟨s1, s2, s3, s4⟩; go_simp⟩) hS0 ?_
              refine wpAnyZ_take (i := 11) (v := .pointer (some ⟨b6, 1, none⟩)) rfl rfl (by kernel_rfl) (by kernel_rfl) (by kernel_rfl) (by kernel_rfl) (fun _ _ _ h => h) (Or.inl ⟨by rfl, by rintro w' ⟨s1, s2, s3, s4⟩; go_simp⟩) hS0 ?_
              refine wpAnyZ_take (i := 12) (v := .int .i64 (b_y)) rfl rfl (by kernel_rfl) (by kernel_rfl) (by kernel_rfl) (by kernel_rfl) (fun _ _ _ h => h) (Or.inl ⟨by rfl, by rintro w' ⟨s1, s2, s3, s4⟩; go_simp⟩) hS0 ?_
              refine wpAnyZ_take (i := 13) (v := .pointer (some ⟨b6 + 1, 1, none⟩)) rfl rfl (by kernel_rfl) (by kernel_rfl) (by kernel_rfl) (by kernel_rfl) (fun _ _ _ h => h) (Or.inl ⟨by rfl, by rintro w' ⟨s1, s2, s3, s4⟩; go_simp⟩) hS0 ?_
              refine wpAnyZ_take (i := 14) (v := .int .i64 (uy)) rfl rfl (by kernel_rfl) (by kernel_rfl) (by kernel_rfl) (by kernel_rfl) (fun _ _ _ h => h) (Or.inl ⟨by rfl, by rintro w' ⟨s1, s2, s3, s4⟩; go_simp⟩) hS0 ?_
              refine wpAnyZ_take (i := 15) (v := .int .i64 (b_y - uy)) rfl rfl (by kernel_rfl) (by kernel_rfl) (by kernel_rfl) (by kernel_rfl) (fun _ _ _ h => h) (Or.inl ⟨by rfl, by rintro w' ⟨s1, s2, s3, s4⟩; go_simp⟩) hS0 ?_
              refine wpAnyZ_one (i := 7) (by kernel_rfl) rfl rfl ?_
              go_simp
              refine (L1.out _).mono ?_
              rintro e v1 ⟨rfl, K1⟩
              go_simp
              have hS1 := cB4 K1 hS0
              refine ⟨hS1, ?_⟩
              refine wpAnyZ_take (i := 8) (v := .int .i64 (ux + d1)) rfl rfl (by kernel_rfl) (by kernel_rfl) (by kernel_rfl) (by kernel_rfl) (fun _ _ _ h => h) (Or.inl ⟨by rfl, by rintro w' ⟨s1, s2, s3, s4⟩; go_simp⟩) hS1 ?_
              refine wpAnyZ_one (i := 16) (by kernel_rfl) rfl rfl ?_
              go_simp
              refine (L2.out _).mono ?_
              rintro e v2 ⟨rfl, K2⟩
              go_simp
              have hS2 := cB4 K2 hS1
              refine ⟨hS2, ?_⟩
              refine wpAnyZ_take (i := 17) (v := .int .i64 (uy + d2)) rfl rfl (by kernel_rfl) (by kernel_rfl) (by kernel_rfl) (by kernel_rfl) (fun _ _ _ h => h) (Or.inl ⟨by rfl, by rintro w' ⟨s1, s2, s3, s4⟩; go_simp⟩) hS2 ?_
              refine wpAnyZ_take (i := 18) (v := .agg #[.int .i64 (ux + d1), .int .i64 (uy + d2)]) rfl rfl (by kernel_rfl) (by kernel_rfl) (by kernel_rfl) (by kernel_rfl) (fun _ _ _ h => h) (Or.inl ⟨by rfl, by rintro w' ⟨s1, s2, s3, s4⟩; go_simp⟩) hS2 ?_
              have KK := bw_trans (show Below wr.heap.size wr wr.drew from bw_drew (bw_refl _)) (bw_trans K1 K2)
              replace M7 := keep KK M7
              replace M6 := keep KK M6
              have hownv := hown'.kept (w' := v2) (row := none) ⟨KK.os, KK.tape, KK.output, KK.size, fun j hj _ => KK.block j hj⟩ (Classical.em _)
              have nv2 := bw_trans nz KK
              obtain ⟨y0, y1, y2, y3⟩ := blk2 M7
              refine wpAnyZ_one (i := 19) (by kernel_rfl) rfl rfl ?_
              go_simp
              refine wpAnyZ_done (by kernel_rfl) ?_
              try simp only [Exit.then]
              obtain ⟨Wf, hWf⟩ : ∃ Wf, Wf = (v2.setCell ⟨b6 + 1, 0, none⟩ (.int .i64 (ux + d1))).setCell ⟨b6 + 1, 1, none⟩ (.int .i64 (uy + d2)) := ⟨_, rfl⟩
              have zv2 := nv2.size
              have N7 : Wf.heap[b6 + 1]? = some (.cells #[.int .i64 (ux+d1), .int .i64 (uy+d2)] 42) := by rw [hWf, setCell_row (setCell_row M7 _) _]; rfl
              have N6 : Wf.heap[b6]? = some (.cells #[.int .i64 bx, .int .i64 b_y] 42) := by rw [hWf]; exact set_oth (set_oth M6 (by omega)) (by omega)
              have Gf : v2.grownBy Wf (some (b6 + 1)) := by
                rw [hWf]
                refine ⟨rfl, rfl, rfl, by simp, fun k hk hne => ?_⟩
                have hkne : k ≠ b6 + 1 := fun e => hne (by rw [e])
                rw [Below.heap_setCell _ _ _ _ (by show k ≠ b6 + 1; exact hkne), Below.heap_setCell _ _ _ _ (by show k ≠ b6 + 1; exact hkne)]
              have hob2 := hob' g2 rfl
              have hownf := hownv.kept Gf (.inr (fun e => hob2.2 (Option.some.inj e)))
              have nf : Below w.heap.size w Wf := by rw [hWf]; exact bw_set (bw_set nv2 (by dsimp only; omega) _) (by dsimp only; omega) _
              have zf := nf.size
              have zN7 := blk_lt N7
              rw [← hWf]
              clear hWf M6 M7 y0 y1 y2 y3 hownv Gf K1 K2 KK hS0 hS1 hS2
              obtain ⟨p0, p1⟩ := blk_2 N7
              have HS : Hid (addP (ptAt l q) d (j + 1) = (ux + d1, uy + d2)) := by
                change _ = _
                rw [← addP_one, HU.out, HD.out.1, HD.out.2]
              go_wp2_with (at_builtin; refine wpList_append_lies _ rfl _ _ _ rfl w.heap.size 42 i0 _ 2 16 Tryd.underlying23 hi0 hz0 hz1 hz2 rfl (by omega) _ _ _ rfl (hownf.alloc _) ⟨Wf.heap.size, 0, none⟩ 1 1 [.int .i64 (ux + d1), .int .i64 (uy + d2)] rfl rfl (World.news_of_block (cs := #[.int .i64 (ux + d1), .int .i64 (uy + d2)]) (t := 42) (fr := (0, 0)) (heap_alloc_new Wf _)) (by simp [Value.oneCell']) (by omega) (by simp [maxLen]; omega) (by omega) (by simp; omega) (Wf.heap.size + 1) (by simp) ?_; intro gg cap' w8 hown1 hgrow hat hlt1)
              go_roundw
              case rel =>
                have keepBlk : ∀ b o, Wf.heap[b]? = some o → b ≠ g2 → w8.heap[b]? = some o := fun b o hb hbn => (hgrow.block b (by have := blk_lt hb; simp; omega) (fun e => hbn (Option.some.inj e))).trans ((Below.heap_alloc _ _ _ (blk_lt hb)).trans hb)
                refine ⟨j + 1, by omega, ?_, ?_, ?_, keepBlk _ _ N6 (Ne.symm hob2.1), (nf.alloc nf.size _).grown hgrow (by simp; omega) (fun k e => (hownf.lt k e).1)⟩
                · have e1 : ptCells (stayL (l.take (q + 1)) ++ lineL (ptAt l q) d (j + 1)) = ptCells (stayL (l.take (q + 1)) ++ lineL (ptAt l q) d j) ++ [.int .i64 (ux + d1), .int .i64 (uy + d2)] := by
                    rw [lineL_snoc, HS.out, ← List.append_assoc, ptCells_snoc]
                  rw [e1]
                  exact hown1
                · intro b e
                  rcases hat with h | h
                  · obtain rfl : g2 = gg := Option.some.inj h
                    obtain rfl : g2 = b := Option.some.inj e
                    exact hob2
                  · obtain rfl : gg = b := Option.some.inj e
                    omega
                · rw [HS.out]; exact keepBlk _ _ N7 (Ne.symm hob2.2)
              case measure => simp [lenOf]; omega
        · have e1 := hF (stayV_inl (i := q) (by rw [HL.out]; exact hlt) (by rw [HA.out, HB.out]; simp [inlP]; intro _; exact ⟨fun h => hx h.symm, fun h => hy h.symm⟩))
          have y1 : (b_y == ay) = false := by simpa using hy
          have y2 : (b_y = ay) = False := by simpa using hy
          have y3 : (b_y != ay) = true := by unfold bne; rw [y1]; rfl
          clear hx hy
          go_wp2_with fail
          go_ret2
          exact ⟨_, by rw [e1.out.1]; rfl, .inl ⟨e1.out.2, _, _, rfl⟩, bw_alloc hn2 _⟩
end Go.Proofs.YtfdnadiliedikaaDoor
