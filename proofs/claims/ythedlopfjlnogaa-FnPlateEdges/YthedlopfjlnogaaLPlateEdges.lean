/-
  OUR OWN TEXT. The law FnPlateEdges, walked: whatever bytes come in, it answers true and writes nothing that was there.
-/
import Derived.Test.YthedlopfjlnogaaLPlateIn
import Derived.Test.YthedlopfjlnogaaSPlateE
namespace Go.Proofs.Ythedlopfjlnogaa
open Go.RowKit Go.Sort

theorem ansS_slice {base top : Nat} {W : World} {v : Value} {ss : List (P2 × P2)} (h : AnsS base top W v ss) : ∃ a c, v = .slice a ss.length c := by
  rcases h with ⟨rfl, a, c, rfl⟩ | ⟨g, c, rfl, _⟩
  · exact ⟨a, c, rfl⟩
  · exact ⟨_, c, rfl⟩
theorem ansS_row {base top : Nat} {W : World} {v : Value} {ss : List (P2 × P2)} (h : AnsS base top W v ss) (hs : 0 < ss.length) : ∃ g c, v = .slice (some ⟨g, 0, none⟩) ss.length c ∧ g < W.heap.size ∧ SRow W g ss := by
  rcases h with ⟨rfl, a, c, rfl⟩ | ⟨g, c, rfl, _, _, _, hO, hS⟩
  · simp at hs
  · exact ⟨g, c, rfl, hO.lt, hS⟩
theorem plE_meet {o : List P2} {hs : List (List P2)} (hv : plV o hs = true) {i k : Nat} (hk : k < o.length) (hi : o.length ≤ i) (hi2 : i < (plE o hs).length) : meetP (sAt (plE o hs) i).1 (sAt (plE o hs) i).2 (sAt (plE o hs) k).1 (sAt (plE o hs) k).2 = false := by
  have L := (plV_iff o hs).1 hv
  have hE : plE o hs = segsL o ++ hs.flatMap segsL := by unfold plE; rw [hv]; rfl
  rw [hE] at hi2 ⊢
  have e1 : sAt (segsL o ++ hs.flatMap segsL) k = (ptAt o k, ptAt o (nxt o k)) := by
    rw [← segsL_at o k hk]; unfold sAt; rw [List.getElem?_append_left (by rw [segsL_len]; exact hk)]
  have e2 : sAt (segsL o ++ hs.flatMap segsL) i ∈ hs.flatMap segsL := by
    rw [List.length_append] at hi2
    have : sAt (segsL o ++ hs.flatMap segsL) i = sAt (hs.flatMap segsL) (i - (segsL o).length) := by unfold sAt; rw [List.getElem?_append_right (by rw [segsL_len]; exact hi)]
    rw [this]; exact sAt_mem (by rw [segsL_len] at hi2 ⊢; omega)
  obtain ⟨t, ht, h⟩ := List.mem_flatMap.1 e2
  obtain ⟨q, hq, e⟩ := (segsL_mem _ _).1 h
  rw [e1, e]
  have ha := ((arB_iff _ _).1 (L.ar t ht)).1
  rw [← apL_comm] at ha
  exact (apL_iff t o).1 ha q hq k hk
set_option maxRecDepth 100000 in
set_option maxHeartbeats 2000000 in
theorem plateEdges_walk (w : World) (a0 : Option Addr) (len0 cap0 : Nat) (z0 : List Int) (r0 : IsRow .u8 w a0 len0 cap0 z0) :
    Calls Try.prog 7 #[.slice a0 len0 cap0] w fun e w' => e = .returned (.bool true) ∧ Below w.heap.size w w' := by
  obtain ⟨i0, hi0, hz0, hz1, hz2⟩ := info_parts Try.infoSeg
  by_cases hl : 1048576 < len0
  · go_enter Try.func7, Try.ntmps7
    go_wp2
    go_ret
    exact ⟨rfl, bw_refl _⟩
  have hl0 : len0 ≤ 1048576 := by omega
  clear hl
  go_enter Try.func7, Try.ntmps7
  go_wp2_with fail
  refine (drawPlateEdges_any w _ r0 (bw_refl _)).mono ?_
  rintro e w1 ⟨⟨g, n, c, l⟩, hv, hs, he, hD, ⟨hs3, hst⟩, J1⟩
  obtain rfl : e = .returned (.agg #[.slice (some ⟨g, 0, none⟩) n c, hv]) := he
  obtain ⟨gh, ch, rfl⟩ : ∃ gh ch, hv = .slice (some ⟨gh, 0, none⟩) hs.length ch := own_seat hD.2.2.1 hst
  obtain ⟨W, hW, BW, T⟩ := boxes1' w1 (.cells #[.slice (some ⟨g, 0, none⟩) n c, .slice (some ⟨gh, 0, none⟩) hs.length ch] 26)
  replace hD := hD.below BW
  have K := bw_trans J1 BW
  go_upto_region 5 with fail
  rw [← hW]
  clear hW BW J1
  have hPl := hD.plt
  obtain ⟨N, hNN⟩ : ∃ N, hs.length = N := ⟨_, rfl⟩
  have HN : Hid (hs.length = N) := hNN
  rw [hNN] at T hPl
  rw [hNN]
  clear hNN
  obtain ⟨t0, t1⟩ := blk_2 T
  go_wp2_with fail
  refine (plateEdges_ans _ _ n c N ch l _ _ hPl).mono ?_
  rintro e w2 ⟨v2, rfl, A2, J⟩
  replace K := bw_trans K J
  replace T := keep J T
  replace hD := hD.below J
  replace hPl := hPl.below J
  clear J t0 t1
  obtain ⟨t0, t1⟩ := blk_2 T
  go_wp2_with fail
  refine (sPlateEdges_ans _ _ n c N ch l _ _ hPl).mono ?_
  rintro e w3 ⟨v3, rfl, A3, J⟩
  replace K := bw_trans K J
  replace T := keep J T
  replace hD := hD.below J
  replace A2 := A2.below J
  clear J t0 t1 hPl
  obtain ⟨a3, c3, rfl⟩ := ansS_slice A3
  obtain ⟨M, hM⟩ : ∃ M, (plE l (hs.map LoopT.l)).length = M := ⟨_, rfl⟩
  have HM : Hid ((plE l (hs.map LoopT.l)).length = M) := hM
  have hM24 : M ≤ 24 := by have := plE_len l (hs.map LoopT.l); omega
  cases hv : plV l (hs.map LoopT.l)
  case false =>
    obtain ⟨a2, c2, rfl⟩ := ansS_slice A2
    have hM0 : M = 0 := by rw [← hM]; unfold plE; rw [hv]; rfl
    rw [hM, hM0]
    go_wp2_with fail
    go_ret
    exact ⟨rfl, K⟩
  have hL := (plV_iff _ _).1 hv
  have hpos := (okV_pos hL.out).1
  have hE : Hid (plE l (hs.map LoopT.l) = segsL l ++ (hs.map LoopT.l).flatMap segsL) := by change _ = _; unfold plE; rw [hv]; rfl
  have hM3 : 3 ≤ M := by rw [← hM, hE.out, List.length_append, segsL_len]; omega
  obtain ⟨g2, c2, rfl, zg2, S2⟩ := ansS_row A2 (by omega)
  rw [hM]
  have hMz : ((M : Int) == 0) = false := by rw [beq_eq_false_iff_ne]; omega
  have hMz' : (M = 0) = False := by simp; omega
  obtain ⟨o1, o2, o3, o4, o5, o6, o7⟩ := hD.1
  have o3' : l.length = n := o3
  have o2' : n ≤ 8 := o2
  have hPo := blk_pts o7 o3
  have hN2 : N ≤ 2 := by have := plV_len hv; rw [List.length_map, HN.out] at this; exact this
  obtain ⟨t0, t1⟩ := blk_2 T
  clear hM
  go_wp2_with fail
  refine (loopEdges_any (some ⟨g, 0, none⟩) n c l (by omega) _ hPo).mono ?_
  rintro e w4 ⟨hans, J4⟩
  rcases hans with ⟨h0, _⟩ | ⟨_, vv, rfl, ho⟩
  · rw [hL.out] at h0; cases h0
  rw [show segCells l n = cellsS (segsL l) by rw [segsL_cells, o3']] at ho
  obtain ⟨g4, c4, rfl⟩ : ∃ g4 c4, vv = .slice (some ⟨g4, 0, none⟩) n c4 := by
    rcases ho.2 with ⟨_, h0⟩ | ⟨g4, c4, cur, e4, _⟩
    · omega
    · exact ⟨g4, c4, e4⟩
  have hkl : Hid (∀ k, k < N → ((hs.map LoopT.l).take (k + 1)).flatMap segsL = ((hs.map LoopT.l).take k).flatMap segsL ++ segsL ((hs.map LoopT.l)[k]?.getD [])) := fun k hk => by
    rw [List.take_add_one, List.flatMap_append, List.getElem?_eq_getElem (by rw [List.length_map, HN.out]; exact hk)]; simp
  have HB : Hid (∀ k, k ≤ N → (segsL l ++ ((hs.map LoopT.l).take k).flatMap segsL).length ≤ 24) := fun k hk => by
    have h2 := flat_len ((hs.map LoopT.l).take k) (fun x hx => (okV_pos (hL.ok x (List.mem_of_mem_take hx))).2)
    rw [List.length_take] at h2
    rw [List.length_append, segsL_len]; omega
  have hokH : Hid (∀ t ∈ hs, okV t.l = true) := fun t ht => hL.ok _ (List.mem_map.2 ⟨t, ht, rfl⟩)
  have ho1 : w4.ownsRow w3.heap.size 44 4 (.slice (some ⟨g4, 0, none⟩) n c4) (segsL l ++ ((hs.map LoopT.l).take 0).flatMap segsL).length (cellsS (segsL l ++ ((hs.map LoopT.l).take 0).flatMap segsL)) := by
    simp only [List.take_zero, List.flatMap_nil, List.append_nil]; rw [segsL_len, o3']; exact ho
  clear ho t0 t1
  go_wp2_with fail
  go_loopw [6, 8] (fun all i wr => ∃ k : Nat, k ≤ N ∧ i = .int .i64 k ∧ wr.ownsRow w3.heap.size 44 4 all (segsL l ++ ((hs.map LoopT.l).take k).flatMap segsL).length (cellsS (segsL l ++ ((hs.map LoopT.l).take k).flatMap segsL)) ∧ Below w3.heap.size w3 wr) (fun _ i _ => N - (intOf i).toNat)
  case atStart => exact ⟨0, Nat.zero_le _, rfl, ho1, J4⟩
  case round =>
    obtain ⟨k, hk, rfl, hown, hnx⟩ := hrel
    obtain ⟨t0, t1⟩ := blk_2 (keep hnx T)
    have zz := hnx.size
    by_cases hlt : k < N
    case pos =>
      have j0 : (0 : Int) ≤ (k : Int) := Int.natCast_nonneg _
      have j1 : (k : Int) < (N : Int) := by omega
      have j2 : (k : Int) ≤ 2 := by omega
      obtain ⟨gq, nq, cq, lq, hq1, hq2, hqc, nq3, nq8, hql, hqb⟩ := (hD.below hnx).hole (j := k) (by rw [HN.out]; exact hlt)
      have hokq : okV lq = true := hokH.out _ (List.mem_of_getElem? hq1)
      have hcall := loopEdges_any (some ⟨gq, 0, none⟩) nq cq lq (by omega) wr (blk_pts hqb hql)
      have hT1 := hkl.out k hlt
      rw [hq2] at hT1
      have HL1 : Hid ((segsL l ++ ((hs.map LoopT.l).take k).flatMap segsL).length + nq = (segsL l ++ ((hs.map LoopT.l).take (k + 1)).flatMap segsL).length) := by change _ = _; rw [hT1, ← List.append_assoc, List.length_append (bs := segsL _), segsL_len, hql]
      have HC1 : Hid (cellsS (segsL l ++ ((hs.map LoopT.l).take (k + 1)).flatMap segsL) = cellsS (segsL l ++ ((hs.map LoopT.l).take k).flatMap segsL) ++ cellsS (segsL lq)) := by change _ = _; rw [hT1, ← List.append_assoc, cellsS_append _ (segsL _)]
      have HLK : Hid ((cellsS (segsL lq)).length = nq * 4) := by change _ = _; rw [cellsS_len, segsL_len, hql]
      have HCC : Hid (segCells lq nq = cellsS (segsL lq)) := by change _ = _; rw [segsL_cells, hql]
      have hm1 : (segsL l ++ ((hs.map LoopT.l).take k).flatMap segsL).length + nq ≤ 24 := by rw [HL1.out]; exact HB.out (k + 1) hlt
      clear hT1 hq2
      go_wp2_with (first
        | (go_at_call 24; refine hcall.mono ?_; rintro e w7 ⟨hans, J7⟩; obtain ⟨g7, c7, rfl, ho7⟩ : ∃ g7 c7, e = .returned (.slice (some ⟨g7, 0, none⟩) nq c7) ∧ w7.ownsRow wr.heap.size 44 4 (.slice (some ⟨g7, 0, none⟩) nq c7) nq (cellsS (segsL lq)) := (by
            rcases hans with ⟨h0, _⟩ | ⟨_, vv, rfl, ho⟩
            · rw [hokq] at h0; cases h0
            · rw [HCC.out] at ho
              have ho' := ho
              rcases ho.2 with ⟨_, h0⟩ | ⟨g4, c4, cur, e4, _⟩
              · omega
              · subst e4; exact ⟨g4, c4, rfl, ho'⟩); have hown7 := hown.kept (w' := w7) (row := none) ⟨J7.os, J7.tape, J7.output, J7.size, fun j hj _ => J7.block j hj⟩ (Classical.em _); have hn7 := bw_trans hnx J7; have zz7 := hn7.size)
        | (at_builtin; refine wpList_append_own_wide _ rfl _ _ _ rfl w3.heap.size 44 i0 _ 4 32 Try.underlying40 hi0 hz0 hz1 hz2 rfl (by omega) _ _ _ rfl hown7 ⟨g7, 0, none⟩ nq c7 (cellsS (segsL lq)) rfl HLK.out (ho7.cells (g := g7) rfl) (cellsS_one _) (by simp [maxLen] at hm1 ⊢; omega) (by omega) (by omega) ?_; intro v8 w8 hown8 hgr8 hnil8))
      go_roundw
      case rel => exact ⟨k + 1, by omega, by simp, by rw [← HL1.out, HC1.out]; exact hown8, hn7.grown hgr8 zz7 (fun j e => (hown7.lt j e).1)⟩
      case measure => simp [intOf]; omega
    case neg =>
      obtain rfl : N = k := by omega
      rw [List.take_of_length_le (by rw [List.length_map, HN.out]; exact Nat.le_refl _), ← hE.out] at hown
      obtain ⟨g5, c5, e5, zg5, S5⟩ := ansS_row (AnsS.of_owns hown rfl) (by rw [HM.out]; omega)
      subst e5
      have hsg : Hid (∀ j, j < M → sgP (sAt (plE l (hs.map LoopT.l)) j).1 (sAt (plE l (hs.map LoopT.l)) j).2 = true) := fun j hj => plE_ok hv (sAt_mem (by rw [HM.out]; exact hj))
      have hmt : Hid (∀ i k, k < n → n ≤ i → i < M → meetP (sAt (plE l (hs.map LoopT.l)) i).1 (sAt (plE l (hs.map LoopT.l)) i).2 (sAt (plE l (hs.map LoopT.l)) k).1 (sAt (plE l (hs.map LoopT.l)) k).2 = false) := fun i k hk hi hi2 => plE_meet hv (by rw [o3']; exact hk) (by rw [o3']; exact hi) (by rw [HM.out]; exact hi2)
      have hnM : n ≤ M := by rw [← HM.out, hE.out, List.length_append, segsL_len]; omega
      have K5 := bw_trans K hnx
      have S2' := S2.below hnx zg2
      have zg2' : g2 < wr.heap.size := by omega
      rename World => wo
      rw [HM.out]
      clear hown A2 A3 hE hL hv HB hkl hokH ho1 J4 hD hPo o1 o2 o4 o5 o6 o7 hpos S2
      generalize plE l (hs.map LoopT.l) = ss at *
      go_wp2_with fail
      go_loopw [9] (fun i wr => ∃ q : Nat, q ≤ M ∧ i = .int .i64 q ∧ Below wo.heap.size wo wr) (fun i _ => M - (intOf i).toNat)
      case atStart => exact ⟨0, Nat.zero_le _, rfl, bw_refl _⟩
      case round =>
        obtain ⟨q, hq, rfl, hn2⟩ := hrel
        rename World => wi
        by_cases hqM : q < M
        case neg =>
          obtain rfl : M = q := by omega
          go_wp2_with fail
          go_ret
          exact ⟨rfl, bw_trans K5 hn2⟩
        case pos =>
          have q0 : (0 : Int) ≤ (q : Int) := Int.natCast_nonneg _
          have q1 : (q : Int) < (M : Int) := by omega
          have q2 : (q : Int) ≤ 24 := by omega
          obtain ⟨d0, d1, d2, d3⟩ := regrow4 ((S2'.below hn2 zg2') q (by rw [HM.out]; exact hqM))
          obtain ⟨f0, f1, f2, f3⟩ := regrow4 ((S5.below hn2 zg5) q (by rw [HM.out]; exact hqM))
          have sq := hsg.out q hqM
          go_wp2_with fail
          refine wp_region_quiet_below (by kernel_rfl) (by kernel_rfl) ?_
          repeat (first | go_big_quiet_step (fail))
          refine wpQuiet_nil ?_
          intro _ hw'
          obtain ⟨⟨dq, osq⟩, hw''⟩ := hw'
          subst hw''
          have J := below_regrown wi dq osq
          generalize grow (redrawn wi dq) osq = v5 at J ⊢
          have hn2' := bw_trans hn2 J
          have hSi := S2'.below hn2' zg2'
          have zgi : g2 < v5.heap.size := by have := hn2'.size; omega
          clear J d0 d1 d2 d3 f0 f1 f2 f3
          go_wp2_with fail
          go_loopw [10] (fun k wr => ∃ j : Nat, j ≤ n ∧ k = .int .i64 j ∧ Below v5.heap.size v5 wr) (fun k _ => n - (intOf k).toNat)
          case atStart => exact ⟨0, Nat.zero_le _, rfl, bw_refl _⟩
          case round =>
            obtain ⟨j, hj, rfl, hn3⟩ := hrel
            by_cases hjn : j < n
            case neg =>
              obtain rfl : n = j := by omega
              go_wp2_with fail
              go_roundw
              case rel => exact ⟨q + 1, by omega, by simp, bw_trans hn2' hn3⟩
              case measure => simp [intOf]; omega
            case pos =>
              have j0 : (0 : Int) ≤ (j : Int) := Int.natCast_nonneg _
              have j1 : (j : Int) < (n : Int) := by omega
              have j2 : (j : Int) < (M : Int) := by omega
              by_cases hge : n ≤ q
              · have hg1 : (n : Int) ≤ (q : Int) := by omega
                have hgd : decide ((n : Int) ≤ (q : Int)) = true := by simpa using hge
                have hgd2 : decide (n ≤ q) = true := by simpa using hge
                have sj := hsg.out j (by omega)
                have X1 : Hid (∀ w, Calls Try.prog 25 #[.agg #[.int .i64 (sAt ss q).1.1, .int .i64 (sAt ss q).1.2, .int .i64 (sAt ss q).2.1, .int .i64 (sAt ss q).2.2], .agg #[.int .i64 (sAt ss j).1.1, .int .i64 (sAt ss j).1.2, .int .i64 (sAt ss j).2.1, .int .i64 (sAt ss j).2.2]] w fun e w' => e = .returned (.bool false) ∧ Below w.heap.size w w') := fun w => by
                  have := meet_raw (sAt ss q).1 (sAt ss q).2 (sAt ss j).1 (sAt ss j).2 w; rwa [meetQ_of sq sj, hmt.out q j hjn hge hqM] at this
                obtain ⟨r0', r1', r2', r3'⟩ := regrow4 ((hSi.below hn3 zgi) q (by rw [HM.out]; exact hqM))
                obtain ⟨s0, s1, s2, s3⟩ := regrow4 ((hSi.below hn3 zgi) j (by rw [HM.out]; omega))
                go_wp2_with fail
                refine wp_region_quiet_below (by kernel_rfl) (by kernel_rfl) ?_
                repeat (first | go_big_quiet_step (first | (go_at_call 25; with_reducible exact Calls.regrown_of (X1.out _))))
                refine wpQuiet_nil ?_
                intro _ hw'
                obtain ⟨⟨dq, osq⟩, hw''⟩ := hw'
                subst hw''
                have J := below_regrown wr dq osq
                generalize grow (redrawn wr dq) osq = v9 at J ⊢
                go_wp2_with fail
                go_roundw
                case rel => exact ⟨j + 1, by omega, by simp, bw_trans hn3 J⟩
                case measure => simp [intOf]; omega
              · have hg1 : ¬ ((n : Int) ≤ (q : Int)) := by omega
                have hgd : decide ((n : Int) ≤ (q : Int)) = false := by simpa using hge
                have hgd2 : decide (n ≤ q) = false := by simpa using hge
                go_wp2_with fail
                refine wp_region_quiet_below (by kernel_rfl) (by kernel_rfl) ?_
                repeat (first | go_big_quiet_step (fail))
                refine wpQuiet_nil ?_
                intro _ hw'
                obtain ⟨⟨dq, osq⟩, hw''⟩ := hw'
                subst hw''
                have J := below_regrown wr dq osq
                generalize grow (redrawn wr dq) osq = v9 at J ⊢
                go_wp2_with fail
                go_roundw
                case rel => exact ⟨j + 1, by omega, by simp, bw_trans hn3 J⟩
                case measure => simp [intOf]; omega
end Go.Proofs.Ythedlopfjlnogaa
