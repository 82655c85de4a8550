/-
  OUR OWN TEXT. The law FnPlateIn, walked: whatever bytes come in, it answers true and writes nothing that was there.
-/
import Derived.Test.YthedlopfjlnogaaLPlateHoles
import Derived.Test.YthedlopfjlnogaaPlateE2
namespace Go.Proofs.Ythedlopfjlnogaa
open Go.RowKit Go.Sort

theorem segsL_mem (l : List P2) (s : P2 × P2) : s ∈ segsL l ↔ ∃ i, i < l.length ∧ s = (ptAt l i, ptAt l (nxt l i)) := by
  unfold segsL; simp only [List.mem_map, List.mem_range]
  exact ⟨fun ⟨i, h, e⟩ => ⟨i, h, e.symm⟩, fun ⟨i, h, e⟩ => ⟨i, h, e.symm⟩⟩
theorem sAt_mem {ss : List (P2 × P2)} {j : Nat} (h : j < ss.length) : sAt ss j ∈ ss := by unfold sAt; rw [List.getElem?_eq_getElem h, Option.getD_some]; exact List.getElem_mem _
theorem plE_ok {o : List P2} {hs : List (List P2)} (hv : plV o hs = true) {s : P2 × P2} (h : s ∈ plE o hs) : sgP s.1 s.2 = true := by
  have L := (plV_iff o hs).1 hv
  unfold plE at h
  rw [hv, if_pos rfl, List.mem_append, List.mem_flatMap] at h
  rcases h with h | ⟨t, ht, h⟩
  · obtain ⟨i, hi, rfl⟩ := (segsL_mem _ _).1 h; exact okV_seg' L.out hi
  · obtain ⟨i, hi, rfl⟩ := (segsL_mem _ _).1 h; exact okV_seg' (L.ok t ht) hi
theorem plE_on {o : List P2} {hs : List (List P2)} (hv : plV o hs = true) (p : P2) : (∃ j, j < (plE o hs).length ∧ hasP (sAt (plE o hs) j).1 (sAt (plE o hs) j).2 p = true) ↔ (onL o p = true ∨ ∃ h ∈ hs, onL h p = true) := by
  have key : (∃ j, j < (plE o hs).length ∧ hasP (sAt (plE o hs) j).1 (sAt (plE o hs) j).2 p = true) ↔ ∃ s ∈ plE o hs, hasP s.1 s.2 p = true := by
    constructor
    · rintro ⟨j, hj, h⟩; exact ⟨_, sAt_mem hj, h⟩
    · rintro ⟨s, hs', h⟩
      obtain ⟨j, hj, rfl⟩ := List.getElem_of_mem hs'
      exact ⟨j, hj, by unfold sAt; rw [List.getElem?_eq_getElem hj, Option.getD_some]; exact h⟩
  rw [key]
  unfold plE
  rw [hv, if_pos rfl]
  constructor
  · rintro ⟨s, h, e⟩
    rw [List.mem_append, List.mem_flatMap] at h
    rcases h with h | ⟨t, ht, h⟩
    · obtain ⟨i, hi, rfl⟩ := (segsL_mem _ _).1 h; exact .inl ((onL_iff _ _).2 ⟨i, hi, e⟩)
    · obtain ⟨i, hi, rfl⟩ := (segsL_mem _ _).1 h; exact .inr ⟨t, ht, (onL_iff _ _).2 ⟨i, hi, e⟩⟩
  · rintro (h | ⟨t, ht, h⟩)
    · obtain ⟨i, hi, e⟩ := (onL_iff _ _).1 h; exact ⟨_, List.mem_append.2 (.inl ((segsL_mem _ _).2 ⟨i, hi, rfl⟩)), e⟩
    · obtain ⟨i, hi, e⟩ := (onL_iff _ _).1 h; exact ⟨_, List.mem_append.2 (.inr (List.mem_flatMap.2 ⟨t, ht, (segsL_mem _ _).2 ⟨i, hi, rfl⟩⟩)), e⟩
set_option maxRecDepth 100000 in
set_option maxHeartbeats 2000000 in
theorem plateIn_walk (w : World) (a0 : Option Addr) (len0 cap0 : Nat) (z0 : List Int) (r0 : IsRow .u8 w a0 len0 cap0 z0) :
    Calls Try.prog 6 #[.slice a0 len0 cap0] w fun e w' => e = .returned (.bool true) ∧ Below w.heap.size w w' := by
  by_cases hl : 1048576 < len0
  · go_enter Try.func6, Try.ntmps6
    go_wp2
    go_ret
    exact ⟨rfl, bw_refl _⟩
  have hl0 : len0 ≤ 1048576 := by omega
  clear hl
  have heq : ∀ b : Int, (b == b) = true := by simp
  go_enter Try.func6, Try.ntmps6
  go_wp2_with fail
  refine (drawPlateIn_any w _ r0 (bw_refl _)).mono ?_
  rintro e w1 ⟨⟨g, n, c, l⟩, hv, hs, x, y, he, hPB, hD, ⟨hs3, hst⟩, J1⟩
  obtain rfl : e = .returned (.tuple #[.agg #[.slice (some ⟨g, 0, none⟩) n c, hv], .agg #[.int .i64 x, .int .i64 y]]) := he
  obtain ⟨gh, ch, rfl⟩ : ∃ gh ch, hv = .slice (some ⟨gh, 0, none⟩) hs.length ch := own_seat hD.2.2.1 hst
  obtain ⟨W, hW, BW, T, T2⟩ := boxes2 w1 (.cells #[.slice (some ⟨g, 0, none⟩) n c, .slice (some ⟨gh, 0, none⟩) hs.length ch] 26) (.cells #[.int .i64 x, .int .i64 y] 33)
  replace hD := hD.below BW
  have K := bw_trans J1 BW
  go_upto_region 5 with fail
  rw [← hW]
  clear hW BW J1
  have hPl := hD.plt
  obtain ⟨t0, t1⟩ := blk_2 T
  obtain ⟨u0, u1⟩ := blk_2 T2
  go_wp2_with fail
  refine (plateIn_any _ _ n c hs.length ch l _ (x, y) _ hPl).mono ?_
  rintro e w2 ⟨rfl, J⟩
  replace K := bw_trans K J
  replace T := keep J T
  replace T2 := keep J T2
  replace hD := hD.below J
  replace hPl := hPl.below J
  clear J t0 t1 u0 u1
  obtain ⟨t0, t1⟩ := blk_2 T
  obtain ⟨u0, u1⟩ := blk_2 T2
  go_wp2_with fail
  refine (sPlateIn_any _ _ n c hs.length ch l _ (x, y) _ hPl).mono ?_
  rintro e w3 ⟨rfl, J⟩
  replace K := bw_trans K J
  replace T := keep J T
  replace T2 := keep J T2
  replace hD := hD.below J
  replace hPl := hPl.below J
  clear J t0 t1 u0 u1
  obtain ⟨t0, t1⟩ := blk_2 T
  obtain ⟨u0, u1⟩ := blk_2 T2
  cases hv : plV l (hs.map LoopT.l)
  case false =>
    go_wp2_with fail
    refine (sPlateOk_any _ _ n c hs.length ch l _ _ hPl).mono ?_
    rw [hv]
    rintro e w4 ⟨rfl, J⟩
    replace K := bw_trans K J
    replace hPl := hPl.below J
    obtain ⟨t0, t1⟩ := blk_2 (keep J T)
    obtain ⟨u0, u1⟩ := blk_2 (keep J T2)
    go_wp2_with fail
    refine (sPlateIn_any _ _ n c hs.length ch l _ (x, y) _ hPl).mono ?_
    rintro e w5 ⟨rfl, J⟩
    go_wp2_with fail
    go_ret
    exact ⟨rfl, bw_trans K J⟩
  go_wp2_with fail
  refine (sPlateOk_any _ _ n c hs.length ch l _ _ hPl).mono ?_
  rw [hv]
  rintro e w4 ⟨rfl, J⟩
  replace K := bw_trans K J
  replace T := keep J T
  replace T2 := keep J T2
  replace hD := hD.below J
  replace hPl := hPl.below J
  clear J t0 t1 u0 u1
  obtain ⟨t0, t1⟩ := blk_2 T
  obtain ⟨u0, u1⟩ := blk_2 T2
  cases hp : ptB x y
  case false =>
    go_wp2_with fail
    refine (sPt_any x y _).mono ?_
    rw [hp]
    rintro e w5 ⟨rfl, J⟩
    replace K := bw_trans K J
    replace hPl := hPl.below J
    obtain ⟨t0, t1⟩ := blk_2 (keep J T)
    obtain ⟨u0, u1⟩ := blk_2 (keep J T2)
    go_wp2_with fail
    refine (sPlateIn_any _ _ n c hs.length ch l _ (x, y) _ hPl).mono ?_
    rintro e w6 ⟨rfl, J⟩
    go_wp2_with fail
    go_ret
    exact ⟨rfl, bw_trans K J⟩
  go_wp2_with fail
  refine (sPt_any x y _).mono ?_
  rw [hp]
  rintro e w5 ⟨rfl, J⟩
  replace K := bw_trans K J
  replace T := keep J T
  replace T2 := keep J T2
  replace hD := hD.below J
  replace hPl := hPl.below J
  clear J t0 t1 u0 u1
  obtain ⟨t0, t1⟩ := blk_2 T
  obtain ⟨u0, u1⟩ := blk_2 T2
  have hL := (plV_iff _ _).1 hv
  obtain ⟨o1, o2, o3, o4, o5, o6, o7⟩ := hD.1
  have o2' : n ≤ 1048576 := by have : n ≤ 8 := o2; omega
  have hPo := blk_pts o7 o3
  have hio : inV l (x, y) = inI l (x, y) := inV_ok hL.out hp
  have hin : plInV l (hs.map LoopT.l) (x, y) = plI l (hs.map LoopT.l) (x, y) := plInV_ok hv hp
  have hone := plI_one hv (x, y)
  have hzero := plI_zero hv (p := (x, y))
  rw [hin]
  obtain ⟨N, hNN⟩ : ∃ N, hs.length = N := ⟨_, rfl⟩
  have HN : Hid (hs.length = N) := hNN
  have hs2 : N ≤ 2 := by have := plV_len hv; simpa [hNN] using this
  rw [hNN] at T t1 hPl
  rw [hNN]
  clear hNN hio
  go_wp2_with fail
  refine (in_any' (some ⟨g, 0, none⟩) n c l (x, y) o2' _ hPo).mono ?_
  rw [inV_ok hL.out hp]
  rintro e w6 ⟨rfl, J⟩
  replace K := bw_trans K J
  replace T := keep J T
  replace T2 := keep J T2
  replace hD := hD.below J
  replace hPl := hPl.below J
  clear J t0 t1 u0 u1 hPo
  have hokH : Hid (∀ t ∈ hs, okV t.l = true) := fun t ht => hL.ok _ (List.mem_map.2 ⟨t, ht, rfl⟩)
  have hon := plE_on hv (x, y)
  have hsg : Hid (∀ j, j < (plE l (hs.map LoopT.l)).length → sgP (sAt (plE l (hs.map LoopT.l)) j).1 (sAt (plE l (hs.map LoopT.l)) j).2 = true) := fun j hj => plE_ok hv (sAt_mem hj)
  have hH1 : Hid (plI l (hs.map LoopT.l) (x, y) = 1 ↔ inI l (x, y) = 1 ∧ ∀ j, j < N → inI ((hs.map LoopT.l)[j]?.getD []) (x, y) = -1) := by
    change _ ↔ _
    rw [hone]
    refine and_congr Iff.rfl ⟨fun h j hj => ?_, fun h t ht => ?_⟩
    · have hj' : j < (hs.map LoopT.l).length := by rw [List.length_map, HN.out]; exact hj
      rw [List.getElem?_eq_getElem hj', Option.getD_some]; exact h _ (List.getElem_mem _)
    · obtain ⟨j, hj, rfl⟩ := List.getElem_of_mem ht
      have := h j (by rw [List.length_map, HN.out] at hj; exact hj)
      rwa [List.getElem?_eq_getElem hj, Option.getD_some] at this
  have hH2 : Hid (plI l (hs.map LoopT.l) (x, y) = 0 ↔ ∃ j, j < (plE l (hs.map LoopT.l)).length ∧ hasP (sAt (plE l (hs.map LoopT.l)) j).1 (sAt (plE l (hs.map LoopT.l)) j).2 (x, y) = true) := by
    change _ ↔ _
    rw [hzero, hon]
  have hsl : 3 ≤ (plE l (hs.map LoopT.l)).length ∧ (plE l (hs.map LoopT.l)).length ≤ 24 := by
    refine ⟨?_, plE_len _ _⟩
    unfold plE; rw [hv, if_pos rfl, List.length_append, segsL_len]; have := (okV_pos hL.out).1; omega
  have hPE := plateEdges_ans (some ⟨g, 0, none⟩) (some ⟨gh, 0, none⟩) n c N ch l (hs.map LoopT.l)
  clear hone hzero hon hin hv hL o1 o2 o3 o4 o5 o6 o7 hPB hst hs3
  generalize plI l (hs.map LoopT.l) (x, y) = uin at *
  generalize plE l (hs.map LoopT.l) = ss at *
  generalize inI l (x, y) = uo at *
  obtain ⟨t0, t1⟩ := blk_2 T
  obtain ⟨u0, u1⟩ := blk_2 T2
  go_wp2_with fail
  go_loopw [6, 7] (fun ins i wr => ∃ (k : Nat) (b : Bool), k ≤ N ∧ i = .int .i64 k ∧ ins = .bool b ∧ (b = true ↔ uo = 1 ∧ ∀ j, j < k → inI ((hs.map LoopT.l)[j]?.getD []) (x, y) = -1) ∧ Below w6.heap.size w6 wr) (fun _ i _ => N - (intOf i).toNat)
  case atStart => exact ⟨0, _, Nat.zero_le _, rfl, rfl, by simp, bw_refl _⟩
  case round =>
    obtain ⟨k, b, hk, rfl, rfl, hb, hnx⟩ := hrel
    have T7 := keep hnx T
    have T27 := keep hnx T2
    clear t0 t1 u0 u1
    obtain ⟨t0, t1⟩ := blk_2 T7
    by_cases hlt : k < N
    case pos =>
      have i0 : (0 : Int) ≤ (k : Int) := Int.natCast_nonneg _
      have i1 : (k : Int) < (N : Int) := by omega
      have k2 : (k : Int) ≤ 2 := by omega
      have HB : Hid (b = true ↔ uo = 1 ∧ ∀ j, j < k → inI ((hs.map LoopT.l)[j]?.getD []) (x, y) = -1) := hb
      clear hb
      cases b
      · go_wp2_with fail
        refine wp_region_quiet_below (by kernel_rfl) (by kernel_rfl) ?_
        repeat (first | go_big_quiet_step (fail))
        refine wpQuiet_nil ?_
        intro _ hw'
        obtain ⟨⟨dq, osq⟩, hw''⟩ := hw'
        subst hw''
        have J := below_regrown wr dq osq
        generalize grow (redrawn wr dq) osq = v7 at J ⊢
        go_wp2_with fail
        go_roundw
        case rel => exact ⟨k + 1, false, by omega, by simp, rfl, ⟨(fun h => by cases h), (fun h => absurd (HB.out.2 ⟨h.1, fun j hj => h.2 j (by omega)⟩) (by simp))⟩, bw_trans hnx J⟩
        case measure => simp [intOf]; omega
      · obtain ⟨gq, nq, cq, lq, hq1, hq2, hqc, nq3, nq8, hql, hqb⟩ := (hD.below hnx).hole (j := k) (by rw [HN.out]; exact hlt)
        have hokq : okV lq = true := hokH.out _ (List.mem_of_getElem? hq1)
        have hPq := blk_pts hqb hql
        obtain ⟨uq, huq⟩ : ∃ uq, inI lq (x, y) = uq := ⟨_, rfl⟩
        have HW : Hid (∀ d os, Calls Try.prog 15 #[.slice (some ⟨gq, 0, none⟩) nq cq, .agg #[.int .i64 x, .int .i64 y]] (grow (redrawn wr d) os) fun e W' => e = .returned (.int .i64 uq) ∧ Below (grow (redrawn wr d) os).heap.size (grow (redrawn wr d) os) W') := fun d os => by
          have := in_any' (some ⟨gq, 0, none⟩) nq cq lq (x, y) (by omega) _ ((hPq.below (below_regrown wr d os)).grow (below_regrown wr d os).size)
          rwa [inV_ok hokq hp, huq] at this
        have HQ : Hid (inI ((hs.map LoopT.l)[k]?.getD []) (x, y) = uq) := by rw [hq2]; exact huq
        obtain ⟨t2, t3⟩ := reg_2 T7
        obtain ⟨u2, u3⟩ := reg_2 T27
        have hqc' := cell_regrown hqc
        clear hqc huq hokq hq2
        have stepB : Hid ((uq == -1) = true ↔ uo = 1 ∧ ∀ j, j < k + 1 → inI ((hs.map LoopT.l)[j]?.getD []) (x, y) = -1) := by
          change _ ↔ _
          have h1 := HB.out.1 rfl
          rw [beq_iff_eq]
          refine ⟨fun e => ⟨h1.1, fun j hj => ?_⟩, fun h => by rw [← HQ.out]; exact h.2 k (by omega)⟩
          rcases Nat.lt_or_ge j k with hjk | hjk
          · exact h1.2 j hjk
          · obtain rfl : j = k := by omega
            rw [HQ.out]; exact e
        obtain ⟨bb, hbb⟩ : ∃ bb, (uq == -1) = bb := ⟨_, rfl⟩
        rw [hbb] at stepB
        go_wp2_with fail
        refine wp_region_quiet_below (by kernel_rfl) (by kernel_rfl) ?_
        repeat (first | go_big_quiet_step (first | (go_at_call 15; with_reducible exact Calls.regrown_of (HW.out _ _))))
        refine wpQuiet_nil ?_
        intro _ hw'
        obtain ⟨⟨dq, osq⟩, hw''⟩ := hw'
        subst hw''
        have J := below_regrown wr dq osq
        generalize grow (redrawn wr dq) osq = v7 at J ⊢
        go_wp2_with fail
        go_roundw
        case rel => exact ⟨k + 1, bb, by omega, by simp, by first | rfl | simp [hbb], stepB.out, bw_trans hnx J⟩
        case measure => simp [intOf]; omega
    case neg =>
      obtain rfl : N = k := by omega
      have Hin : Hid (b = (uin == 1)) := by
        change _ = _
        rw [Bool.eq_iff_iff, beq_iff_eq, hH1.out, hb]
      clear hb
      have K7 := bw_trans K hnx
      go_wp2_with fail
      refine (hPE _ (hPl.below hnx)).mono ?_
      rintro e w8 ⟨v, rfl, hA, J8⟩
      rcases hA with ⟨h0, _⟩ | ⟨g8, c8, rfl, _, _, _, hO8, hS8⟩
      · rw [h0] at hsl; simp at hsl
      have T28 := keep J8 T27
      have K8 := bw_trans K7 J8
      have zg8 := hO8.lt
      obtain ⟨M, hM⟩ : ∃ M, ss.length = M := ⟨_, rfl⟩
      have HM : Hid (ss.length = M) := hM
      rw [hM] at hsl
      rw [hM]
      clear hM t0 t1
      go_wp2_with fail
      go_loopw [8, 10] (fun on i wr => ∃ (k : Nat) (b : Bool), k ≤ M ∧ i = .int .i64 k ∧ on = .bool b ∧ (b = true ↔ ∃ j, j < k ∧ hasP (sAt ss j).1 (sAt ss j).2 (x, y) = true) ∧ Below w8.heap.size w8 wr) (fun _ i _ => M - (intOf i).toNat)
      case atStart => exact ⟨0, false, Nat.zero_le _, rfl, rfl, by simp, bw_refl _⟩
      case round =>
        obtain ⟨k, b2, hk2, rfl, rfl, hb2, hn2⟩ := hrel
        by_cases hlt2 : k < M
        case pos =>
          have q0 : (0 : Int) ≤ (k : Int) := Int.natCast_nonneg _
          have q1 : (k : Int) < (M : Int) := by omega
          have q2 : (k : Int) ≤ 24 := by omega
          have HB2 : Hid (b2 = true ↔ ∃ j, j < k ∧ hasP (sAt ss j).1 (sAt ss j).2 (x, y) = true) := hb2
          clear hb2
          cases b2
          · obtain ⟨d0, d1, d2, d3⟩ := regrow4 ((hS8.below hn2 zg8) k (by rw [HM.out]; exact hlt2))
            obtain ⟨u2, u3⟩ := reg_2 (keep hn2 T28)
            have sk := hsg.out k (by rw [HM.out]; exact hlt2)
            obtain ⟨bb, hbb⟩ : ∃ bb, hasP (sAt ss k).1 (sAt ss k).2 (x, y) = bb := ⟨_, rfl⟩
            have HX : Hid (∀ w, Calls Try.prog 21 #[.agg #[.int .i64 (sAt ss k).1.1, .int .i64 (sAt ss k).1.2, .int .i64 (sAt ss k).2.1, .int .i64 (sAt ss k).2.2], .agg #[.int .i64 x, .int .i64 y]] w fun e w' => e = .returned (.bool bb) ∧ Below w.heap.size w w') := fun w => by
              have := has_raw (sAt ss k).1 (sAt ss k).2 (x, y) w; rwa [hasQ_of sk hp, hbb] at this
            have HBB : Hid (bb = true ↔ ∃ j, j < k + 1 ∧ hasP (sAt ss j).1 (sAt ss j).2 (x, y) = true) := by
              change _ ↔ _
              rw [← hbb]
              refine ⟨fun h => ⟨k, by omega, h⟩, fun ⟨j, hj, h⟩ => ?_⟩
              rcases Nat.lt_or_ge j k with hjk | hjk
              · exact absurd (HB2.out.2 ⟨j, hjk, h⟩) (by simp)
              · obtain rfl : j = k := by omega
                exact h
            clear hbb sk
            go_wp2_with fail
            refine wp_region_quiet_below (by kernel_rfl) (by kernel_rfl) ?_
            repeat (first | go_big_quiet_step (first | (go_at_call 21; with_reducible exact Calls.regrown_of (HX.out _))))
            refine wpQuiet_nil ?_
            intro _ hw'
            obtain ⟨⟨dq, osq⟩, hw''⟩ := hw'
            subst hw''
            have J := below_regrown wr dq osq
            generalize grow (redrawn wr dq) osq = v9 at J ⊢
            go_wp2_with fail
            go_roundw
            case rel => exact ⟨k + 1, bb, by omega, by simp, by first | rfl | simp, HBB.out, bw_trans hn2 J⟩
            case measure => simp [intOf]; omega
          · go_wp2_with fail
            refine wp_region_quiet_below (by kernel_rfl) (by kernel_rfl) ?_
            repeat (first | go_big_quiet_step (fail))
            refine wpQuiet_nil ?_
            intro _ hw'
            obtain ⟨⟨dq, osq⟩, hw''⟩ := hw'
            subst hw''
            have J := below_regrown wr dq osq
            generalize grow (redrawn wr dq) osq = v9 at J ⊢
            go_wp2_with fail
            go_roundw
            case rel => exact ⟨k + 1, true, by omega, by simp, rfl, ⟨(fun _ => by obtain ⟨j, hj, h⟩ := HB2.out.1 (by first | rfl | trivial); exact ⟨j, by omega, h⟩), (fun _ => rfl)⟩, bw_trans hn2 J⟩
            case measure => simp [intOf]; omega
        case neg =>
          obtain rfl : M = k := by omega
          have Hon : Hid (b2 = (uin == 0)) := by
            change _ = _
            rw [Bool.eq_iff_iff, beq_iff_eq, hH2.out, hb2, HM.out]
          clear hb2
          rw [Hin.out, Hon.out]
          go_wp2_with fail
          go_ret
          exact ⟨by first | rfl | simp, bw_trans K8 hn2⟩
end Go.Proofs.Ythedlopfjlnogaa
