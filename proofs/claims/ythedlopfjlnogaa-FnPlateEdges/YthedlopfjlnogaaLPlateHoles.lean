/-
  OUR OWN TEXT. The law FnPlateHoles, walked: whatever bytes come in, it answers true and writes nothing that was there.
-/
import Derived.Test.YthedlopfjlnogaaLPlateFill
namespace Go.Proofs.Ythedlopfjlnogaa
open Go.RowKit Go.Sort

theorem PlD.hole {base : Nat} {W : World} {o : LoopT} {gh ch : Nat} {hs : List LoopT} (h : PlD base W o (.slice (some ⟨gh, 0, none⟩) hs.length ch) hs) {j : Nat} (hj : j < hs.length) :
    ∃ gt nt ct lt, hs[j]? = some (⟨gt, nt, ct, lt⟩ : LoopT) ∧ (hs.map LoopT.l)[j]?.getD [] = lt ∧ W.cell? ⟨gh, j, none⟩ = some (.slice (some ⟨gt, 0, none⟩) nt ct) ∧ 3 ≤ nt ∧ nt ≤ 8 ∧ lt.length = nt ∧ PtBlk W gt ct lt nt := by
  obtain ⟨_, _, hr, ht⟩ := h
  have hc := own_news hr (j := j) (u := (hs[j]).v) (by simp [hj])
  rw [show ((⟨gh, 0, none⟩ : Addr).add j) = ⟨gh, j, none⟩ by unfold Addr.add; split <;> simp_all] at hc
  have hk := ht hs[j] (List.getElem_mem hj)
  have e1 : hs[j]? = some hs[j] := by simp [hj]
  have e2 : (hs.map LoopT.l)[j]?.getD [] = hs[j].l := by simp [hj]
  generalize hs[j] = t at *
  obtain ⟨gt, nt, ct, lt⟩ := t
  obtain ⟨k1, k2, k3, k4, k5, k6, k7⟩ := hk
  exact ⟨gt, nt, ct, lt, e1, e2, hc, k1, k2, k3, k7⟩
theorem blk_pt {W : World} {g c n k : Nat} {l : List P2} (h : PtBlk W g c l n) (hk : k < n) : W.cell? ⟨g, k * 2, none⟩ = some (.int .i64 (ptAt l k).1) ∧ W.cell? ⟨g, k * 2 + 1, none⟩ = some (.int .i64 (ptAt l k).2) := by
  obtain ⟨cur, h, hs, hc⟩ := h
  rw [row_cell h, row_cell h]; exact hc k hk
theorem plt_one {W : World} {a x : Option Addr} {la lx cx b : Nat} {o xs : List P2} {t : TypeId} (hla : la ≤ 1048576) (hO : Pts W.heap.size W a la o) (hb : W.heap[b]? = some (.cells #[.slice x lx cx] t (0, 0))) (hlx : lx ≤ 1048576) (hx : Pts W.heap.size W x lx xs) : Plt W a la (some ⟨b, 0, none⟩) 1 o [xs] := by
  refine ⟨hla, hO, rfl, fun _ => x, fun _ => lx, fun _ => cx, .inr ⟨b, 0, rfl, blk_lt hb, fun j hj => ?_⟩, fun j hj => ?_⟩
  · obtain rfl : j = 0 := by omega
    rw [row_cell hb]; rfl
  · obtain rfl : j = 0 := by omega
    exact ⟨hlx, hx⟩
theorem plt_two {W : World} {a x : Option Addr} {la lx cx b : Nat} {o xs : List P2} {t : TypeId} (hla : la ≤ 1048576) (hO : Pts W.heap.size W a la o) (hb : W.heap[b]? = some (.cells #[.slice x lx cx, .slice x lx cx] t (0, 0))) (hlx : lx ≤ 1048576) (hx : Pts W.heap.size W x lx xs) : Plt W a la (some ⟨b, 0, none⟩) 2 o [xs, xs] := by
  refine ⟨hla, hO, rfl, fun _ => x, fun _ => lx, fun _ => cx, .inr ⟨b, 0, rfl, blk_lt hb, fun j hj => ?_⟩, fun j hj => ?_⟩
  · obtain rfl | rfl : j = 0 ∨ j = 1 := by omega
    · rw [row_cell hb]; rfl
    · rw [row_cell hb]; rfl
  · obtain rfl | rfl : j = 0 ∨ j = 1 := by omega
    · exact ⟨hlx, hx⟩
    · exact ⟨hlx, hx⟩
set_option maxRecDepth 100000 in
set_option maxHeartbeats 8000000 in
theorem plateHoles_walk (w : World) (a0 : Option Addr) (len0 cap0 : Nat) (z0 : List Int) (r0 : IsRow .u8 w a0 len0 cap0 z0) (a1 : Option Addr) (len1 cap1 : Nat) (z1 : List Int) (_ : IsRow .u8 w a1 len1 cap1 z1) :
    Calls Try.prog 4 #[.slice a0 len0 cap0, .slice a1 len1 cap1] w fun e w' => e = .returned (.bool true) ∧ Below w.heap.size w w' := by
  by_cases hl : 1048576 < len0
  · go_enter Try.func4, Try.ntmps4
    go_wp2
    go_ret
    exact ⟨rfl, bw_refl _⟩
  by_cases hl' : 1048576 < len1
  · go_enter Try.func4, Try.ntmps4
    go_wp2
    go_ret
    exact ⟨rfl, bw_refl _⟩
  have hl0 : len0 ≤ 1048576 := by omega
  have hl1 : len1 ≤ 1048576 := by omega
  clear hl hl'
  go_enter Try.func4, Try.ntmps4
  go_wp2_with fail
  refine (drawPlateOk_any w _ r0 (bw_refl _)).mono ?_
  rintro e w1 ⟨⟨g, n, c, l⟩, hv, hs, he, hD, ⟨hs4, hst⟩, J1⟩
  obtain rfl : e = .returned (.agg #[.slice (some ⟨g, 0, none⟩) n c, hv]) := he
  obtain ⟨gh, ch, rfl⟩ : ∃ gh ch, hv = .slice (some ⟨gh, 0, none⟩) hs.length ch := own_seat hD.2.2.1 hst
  obtain ⟨W, hW, BW, T⟩ := boxes1' w1 (.cells #[.slice (some ⟨g, 0, none⟩) n c, .slice (some ⟨gh, 0, none⟩) hs.length ch] 26)
  replace hD := hD.below BW
  have K := bw_trans J1 BW
  go_upto_region 5 with fail
  rw [← hW]
  clear hW BW J1
  have hPl := hD.plt
  obtain ⟨t0, t1⟩ := blk_2 T
  go_wp2_with fail
  refine (plateOk_any _ _ n c hs.length ch l _ _ hPl).mono ?_
  rintro e w2 ⟨rfl, J⟩
  replace K := bw_trans K J
  replace T := keep J T
  replace hD := hD.below J
  replace hPl := hPl.below J
  clear J t0 t1
  obtain ⟨t0, t1⟩ := blk_2 T
  go_wp2_with fail
  refine (sPlateOk_any _ _ n c hs.length ch l _ _ hPl).mono ?_
  rintro e w3 ⟨rfl, J⟩
  replace K := bw_trans K J
  replace T := keep J T
  replace hD := hD.below J
  replace hPl := hPl.below J
  clear J t0 t1
  obtain ⟨t0, t1⟩ := blk_2 T
  cases hv : plV l (hs.map LoopT.l)
  case false =>
    go_wp2_with fail
    refine (sPlateOk_any _ _ n c hs.length ch l _ _ hPl).mono ?_
    rw [hv]
    rintro e w4 ⟨rfl, J⟩
    go_wp2_with fail
    go_ret
    exact ⟨rfl, bw_trans K J⟩
  have hL := (plV_iff _ _).1 hv
  have hs2 : hs.length ≤ 2 := by have := plV_len hv; simpa using this
  have hokO : okV l = true := hL.out
  have hokH : Hid (∀ j, j < hs.length → okV ((hs.map LoopT.l)[j]?.getD []) = true) := fun j hj => hL.ok _ (by rw [List.getElem?_eq_getElem (by simpa using hj), Option.getD_some]; exact List.getElem_mem _)
  have hin : Hid (∀ i, i < hs.length → ∀ k, k < ((hs.map LoopT.l)[i]?.getD []).length → inI l (ptAt ((hs.map LoopT.l)[i]?.getD []) k) = 1) := fun i hi k hk => hole_in hL (by simpa using hi) hk
  have hout : Hid (∀ i j, i < hs.length → j < hs.length → i ≠ j → ∀ k, k < ((hs.map LoopT.l)[i]?.getD []).length → inI ((hs.map LoopT.l)[j]?.getD []) (ptAt ((hs.map LoopT.l)[i]?.getD []) k) = -1) := fun i j hi hj hij k hk => hole_out hL (by simpa using hi) (by simpa using hj) hij hk
  have hgP := hD.1
  obtain ⟨o1, o2, o3, o4, o5, o6, o7⟩ := hgP
  have o2' : n ≤ 1048576 := by have : n ≤ 8 := o2; omega
  have hPo := blk_pts o7 o3
  go_wp2_with fail
  go_loopw [7] (fun i wr => ∃ k : Nat, k ≤ hs.length ∧ i = .int .i64 k ∧ Below w3.heap.size w3 wr) (fun i _ => hs.length - (intOf i).toNat)
  case atStart => exact ⟨0, Nat.zero_le _, rfl, bw_refl _⟩
  case round =>
    obtain ⟨i, hi, rfl, hnx⟩ := hrel
    rename World => wo
    by_cases hlt : i < hs.length
    case pos =>
      obtain ⟨t0', t1'⟩ := blk_2 (keep hnx T)
      have ii0 : (0 : Int) ≤ (i : Int) := Int.natCast_nonneg _
      have ii1 : (i : Int) < (hs.length : Int) := by omega
      obtain ⟨gt, nt, ct, lt, ht1, ht2, htc, nt3, nt8, htl, htb⟩ := (hD.below hnx).hole hlt
      have hokt : Hid (okV lt = true) := by have := hokH.out i hlt; rw [ht2] at this; exact this
      clear t0 t1
      go_wp2_with fail
      go_loopw [8] (fun k wr => ∃ j : Nat, j ≤ nt ∧ k = .int .i64 j ∧ Below wo.heap.size wo wr) (fun k _ => nt - (intOf k).toNat)
      case atStart => exact ⟨0, Nat.zero_le _, rfl, bw_refl _⟩
      case round =>
        obtain ⟨j, hj, rfl, hn2⟩ := hrel
        rename World => wi
        have zz : wo.heap.size ≤ wi.heap.size := hn2.size
        clear t0' t1'
        have T2 := keep hn2 (keep hnx T)
        obtain ⟨t0, t1⟩ := blk_2 T2
        have hgh : gh < wo.heap.size := ((hD.below hnx).2.2.1.lt gh rfl).2
        have htc2 := (hn2.cell (p := ⟨gh, i, none⟩) hgh).trans htc
        have htb2 := htb.below hn2
        by_cases hjt : j < nt
        case pos =>
          have jj0 : (0 : Int) ≤ (j : Int) := Int.natCast_nonneg _
          have jj1 : (j : Int) < (nt : Int) := by omega
          obtain ⟨p0, p1⟩ := blk_pt htb2 hjt
          have hpB := okV_pt hokt.out (i := j) (by omega)
          have hi1 : inV l (ptAt lt j) = 1 := by rw [inV_ok hokO hpB]; have := hin.out i hlt j (by rw [ht2]; omega); rw [ht2] at this; exact this
          have hPo2 := ((hPo.below (bw_trans hnx hn2)).grow (bw_trans hnx hn2).size)
          obtain ⟨px, hpx⟩ : ∃ q, (ptAt lt j).1 = q := ⟨_, rfl⟩
          obtain ⟨py, hpy⟩ : ∃ q, (ptAt lt j).2 = q := ⟨_, rfl⟩
          have hpp : ptAt lt j = (px, py) := Prod.ext hpx hpy
          rw [hpx, hpy] at hpB
          rw [hpp] at hi1
          rw [hpx] at p0
          rw [hpy] at p1
          obtain ⟨W3, hW3, B3, At⟩ := boxes1' wi (.cells #[.int .i64 px, .int .i64 py] 33)
          have T3 := keep B3 T2
          have zwi := blk_lt T2
          have K3 := bw_trans (bw_trans hnx hn2) B3
          have hPo3 := (hPo2.below B3).grow B3.size
          clear hPo2
          go_wp2_with fail
          rw [← hW3]
          clear hW3
          refine (in_any' (some ⟨g, 0, none⟩) n c l (px, py) o2' _ hPo3).mono ?_
          rw [hi1]
          rintro e w6 ⟨rfl, J⟩
          have T6 := keep J T3
          have At6 := keep J At
          have K6 := bw_trans K3 J
          have hD6 := hD.below K6
          have n6 : Below wo.heap.size wo w6 := bw_trans (bw_trans hn2 B3) J
          clear t0 t1 J T3 At hPo3 K3
          obtain ⟨t0, t1⟩ := blk_2 T6
          go_wp2_with fail
          go_loopw [10] (fun nn wr => ∃ q : Nat, q ≤ hs.length ∧ nn = .int .i64 q ∧ Below w6.heap.size w6 wr) (fun nn _ => hs.length - (intOf nn).toNat)
          case atStart => exact ⟨0, Nat.zero_le _, rfl, bw_refl _⟩
          case round =>
            obtain ⟨q, hq, rfl, hn3⟩ := hrel
            rename World => wn
            clear t0 t1
            have T7 := keep hn3 T6
            obtain ⟨t0, t1⟩ := blk_2 T7
            obtain ⟨a0', a1'⟩ := blk_2 (keep hn3 At6)
            by_cases hqn : q < hs.length
            case pos =>
              have q0 : (0 : Int) ≤ (q : Int) := Int.natCast_nonneg _
              have q1 : (q : Int) < (hs.length : Int) := by omega
              by_cases hqi : q = i
              · subst hqi
                have hb : ((q : Int) != (q : Int)) = false := by simp
                go_wp2_with fail
                refine wp_region_quiet_below (by kernel_rfl) (by kernel_rfl) ?_
                repeat (first | go_big_quiet_step (fail))
                refine wpQuiet_nil ?_
                intro _ hw'
                obtain ⟨⟨dq, osq⟩, hw''⟩ := hw'
                subst hw''
                have J := below_regrown wn dq osq
                generalize grow (redrawn wn dq) osq = w8 at J ⊢
                go_wp2_with fail
                go_roundw
                case rel => exact ⟨q + 1, by omega, by simp, bw_trans hn3 J⟩
                case measure => simp [intOf]; omega
              · have hb : ((q : Int) != (i : Int)) = true := by simp; omega
                have hD7 := hD6.below hn3
                obtain ⟨gq, nq, cq, lq, hq1, hq2, hqc, nq3, nq8, hql, hqb⟩ := hD7.hole hqn
                have hokq : okV lq = true := by have := hokH.out q hqn; rw [hq2] at this; exact this
                have hiq : inV lq (px, py) = -1 := by
                  rw [inV_ok hokq hpB]
                  have := hout.out i q hlt hqn (fun e => hqi e.symm) j (by rw [ht2]; omega)
                  rw [ht2, hq2, hpp] at this; exact this
                have hPq := blk_pts hqb hql
                have HW : Hid (∀ d os, Calls Try.prog 15 #[.slice (some ⟨gq, 0, none⟩) nq cq, .agg #[.int .i64 px, .int .i64 py]] (grow (redrawn wn d) os) fun e W' => e = .returned (.int .i64 (-1)) ∧ Below (grow (redrawn wn d) os).heap.size (grow (redrawn wn d) os) W') := fun d os => by
                  have := in_any' (some ⟨gq, 0, none⟩) nq cq lq (px, py) (by omega) _ ((hPq.below (below_regrown wn d os)).grow (below_regrown wn d os).size)
                  rwa [hiq] at this
                obtain ⟨t2, t3⟩ := reg_2 T7
                obtain ⟨a2', a3'⟩ := reg_2 (keep hn3 At6)
                have hqc' := cell_regrown hqc
                clear hqc hiq
                go_wp2_with fail
                refine wp_region_quiet_below (by kernel_rfl) (by kernel_rfl) ?_
                repeat (first | go_big_quiet_step (first | (go_at_call 15; with_reducible exact Calls.regrown_of (HW.out _ _))))
                refine wpQuiet_nil ?_
                intro _ hw'
                obtain ⟨⟨dq, osq⟩, hw''⟩ := hw'
                subst hw''
                have J := below_regrown wn dq osq
                generalize grow (redrawn wn dq) osq = w8 at J ⊢
                go_wp2_with fail
                go_roundw
                case rel => exact ⟨q + 1, by omega, by simp, bw_trans hn3 J⟩
                case measure => simp [intOf]; omega
            case neg =>
              obtain rfl : q = hs.length := by omega
              go_wp2_with fail
              go_roundw
              case rel => exact ⟨j + 1, by omega, by simp, bw_trans n6 hn3⟩
              case measure => simp [intOf]; omega
        case neg =>
          obtain rfl : j = nt := by omega
          go_wp2_with fail
          go_roundw
          case rel => exact ⟨i + 1, by omega, by simp, bw_trans hnx hn2⟩
          case measure => simp [intOf]; omega
    case neg =>
      obtain rfl : i = hs.length := by omega
      have T4 := keep hnx T
      have zT4 := blk_lt T4
      have K4 := bw_trans K hnx
      have hD4 := hD.below hnx
      clear t0 t1
      obtain ⟨t0, t1⟩ := blk_2 T4
      obtain ⟨W5, hW5, B5, Row, Q5⟩ := boxes2 wo (.cells #[.slice (some ⟨g, 0, none⟩) n c] 23) (.cells #[.slice (some ⟨g, 0, none⟩) n c, .slice (some ⟨wo.heap.size, 0, none⟩) 1 1] 26)
      have hD5 := hD4.below B5
      have hPo5 := ((hPo.below (bw_trans hnx B5)).grow (bw_trans hnx B5).size)
      have hq1 := plt_one o2' hPo5 Row o2' hPo5
      have T5 := keep B5 T4
      have K5 := bw_trans K4 B5
      have hself := plV_self hokO
      by_cases h0 : hs.length = 0
      case pos =>
        have h0' : ((hs.length : Int) == 0) = true := by simp [h0]
        go_wp2_with fail
        rw [← hW5]
        refine (plateOk_any _ _ n c 1 1 l _ _ hq1).mono ?_
        rw [hself]
        rintro e w6 ⟨rfl, J⟩
        go_wp2_with fail
        go_ret
        exact ⟨rfl, bw_trans K5 J⟩
      case neg =>
        have h0' : ((hs.length : Int) == 0) = false := by rw [beq_eq_false_iff_ne]; omega
        obtain ⟨md, hmd⟩ : ∃ md : Nat, (len1 : Int).tmod (hs.length : Int) = (md : Int) := ⟨((len1 : Int).tmod (hs.length : Int)).toNat, by rw [Int.toNat_of_nonneg]; exact (tmod_bd (len1 : Int) (hs.length : Int) (by omega) (by omega)).1⟩
        have hmd2 : md < hs.length := by have := (tmod_bd (len1 : Int) (hs.length : Int) (by omega) (by omega)).2; omega
        have m0 : (0 : Int) ≤ (md : Int) := Int.natCast_nonneg _
        have m1 : (md : Int) < (hs.length : Int) := by omega
        have hnz : (hs.length = 0) = False := by simpa using h0
        obtain ⟨gt, nt, ct, lt, ht1, ht2, htc, nt3, nt8, htl, htb⟩ := hD5.hole hmd2
        have hokt : okV lt = true := by have := hokH.out md hmd2; rw [ht2] at this; exact this
        have har : arB l lt = true := by
          have := hL.ar ((hs.map LoopT.l)[md]?.getD []) (by rw [List.getElem?_eq_getElem (by simpa using hmd2), Option.getD_some]; exact List.getElem_mem _)
          rw [ht2] at this; exact this
        have htwo : plV l [lt, lt] = false := plV_twice hokt
        have htur : plV lt [l] = false := plV_turned hokO hokt har
        have hPt5 := blk_pts htb htl
        have htc' := cell_regrown htc
        go_wp2_with fail
        rw [← hW5]
        clear t0 t1 hW5
        obtain ⟨t0, t1⟩ := reg_2 T5
        refine wp_region_quiet_below (by kernel_rfl) (by kernel_rfl) ?_
        repeat (first | go_big_quiet_step (fail))
        refine wpQuiet_nil ?_
        intro _ hw'
        obtain ⟨⟨dq, osq⟩, hw''⟩ := hw'
        subst hw''
        have J := below_regrown W5 dq osq
        generalize grow (redrawn W5 dq) osq = w6 at J ⊢
        have T6 := keep J T5
        have Q6 := keep J Q5
        have K6 := bw_trans K5 J
        have hq6 := hq1.below J
        have hPt6 := (hPt5.below J).grow J.size
        have hPo6 := (hPo5.below J).grow J.size
        clear t0 t1 J
        obtain ⟨t0, t1⟩ := blk_2 T6
        obtain ⟨q0, q1⟩ := blk_2 Q6
        go_wp2_with fail
        refine (plateOk_any _ _ n c 1 1 l _ _ hq6).mono ?_
        rw [hself]
        rintro e w7 ⟨rfl, J⟩
        have T7 := keep J T6
        have K7 := bw_trans K6 J
        have hPt7 := (hPt6.below J).grow J.size
        have hPo7 := (hPo6.below J).grow J.size
        clear t0 t1 q0 q1 J
        obtain ⟨t0, t1⟩ := blk_2 T7
        have zT7 := blk_lt T7
        obtain ⟨W8, hW8, B8, Row8⟩ := boxes1' w7 (.cells #[.slice (some ⟨gt, 0, none⟩) nt ct, .slice (some ⟨gt, 0, none⟩) nt ct] 23)
        have hq8 := plt_two o2' ((hPo7.below B8).grow B8.size) Row8 (show nt ≤ 1048576 by omega) ((hPt7.below B8).grow B8.size)
        go_wp2_with fail
        rw [← hW8]
        clear hW8
        refine (plateOk_any _ _ n c 2 2 l _ _ hq8).mono ?_
        rw [htwo]
        rintro e w9 ⟨rfl, J⟩
        have J8 := bw_trans B8 J
        have T9 := keep J8 T7
        have K9 := bw_trans K7 J8
        have hPt9 := (hPt7.below J8).grow J8.size
        have hPo9 := (hPo7.below J8).grow J8.size
        clear t0 t1 J hq8 Row8
        obtain ⟨t0, t1⟩ := blk_2 T9
        have zT9 := blk_lt T9
        obtain ⟨W10, hW10, B10, Row10⟩ := boxes1' w9 (.cells #[.slice (some ⟨g, 0, none⟩) n c] 23)
        have hq10 := plt_one (show nt ≤ 1048576 by omega) ((hPt9.below B10).grow B10.size) Row10 o2' ((hPo9.below B10).grow B10.size)
        go_wp2_with fail
        rw [← hW10]
        clear hW10
        refine (plateOk_any _ _ nt ct 1 1 lt _ _ hq10).mono ?_
        rw [htur]
        rintro e w11 ⟨rfl, J⟩
        go_wp2_with fail
        go_ret
        exact ⟨rfl, bw_trans K9 (bw_trans B10 J)⟩
end Go.Proofs.Ythedlopfjlnogaa
