/-
  OUR OWN TEXT. The specification's PlateOk and PlateIn, by contract, at every plate.
-/
import Derived.Test.YtfnhbdanfnpdeaaDoorSPlate
import Derived.Test.YtfnhbdanfnpdeaaDoorBoard
namespace Go.Proofs.YtfnhbdanfnpdeaaDoor
open Go.RowKit Go.Sort

theorem sApart_pts (a1 a2 : Option Addr) (len1 cap1 len2 cap2 : Nat) (l1 l2 : List P2) (ok1 : okV l1 = true) (ok2 : okV l2 = true) (w : World) (hP1 : Pts w.heap.size w a1 len1 l1) (hP2 : Pts w.heap.size w a2 len2 l2) :
    Calls Tryd.prog 50 #[.slice a1 len1 cap1, .slice a2 len2 cap2] w fun e w' => e = .returned (.bool (apL l1 l2)) ∧ Below w.heap.size w w' := by
  have h1 := okV_pos ok1
  have h2 := okV_pos ok2
  obtain ⟨e1, c1⟩ := hP1
  obtain ⟨e2, c2⟩ := hP2
  rcases c1 with h0 | ⟨b1, off1, rfl, hb1, hc1⟩
  · omega
  rcases c2 with h0 | ⟨b2, off2, rfl, hb2, hc2⟩
  · omega
  exact sApart_ok b1 off1 len1 cap1 b2 off2 len2 cap2 l1 l2 ok1 ok2 e1 e2 w hb1 hb2 hc1 hc2
theorem sInI_pts (a1 : Option Addr) (len1 cap1 : Nat) (l1 : List P2) (p : P2) (ok1 : okV l1 = true) (hp : ptB p.1 p.2 = true) (w : World) (hP1 : Pts w.heap.size w a1 len1 l1) :
    Calls Tryd.prog 49 #[.slice a1 len1 cap1, .agg #[.int .i64 p.1, .int .i64 p.2]] w fun e w' => e = .returned (.int .i64 (inI l1 p)) ∧ Below w.heap.size w w' := by
  have h1 := okV_pos ok1
  obtain ⟨e1, c1⟩ := hP1
  rcases c1 with h0 | ⟨b1, off1, rfl, hb1, hc1⟩
  · omega
  exact sInI_ok b1 off1 len1 cap1 l1 p ok1 hp e1 w hb1 hc1
/-- So many holes lie as they must. -/
def Upto (o : List P2) (hs : List (List P2)) (k : Nat) : Prop := ∀ i, i < k → okV (hs[i]?.getD []) = true ∧ arB o (hs[i]?.getD []) = true ∧ ∀ j, j < i → beB (hs[i]?.getD []) (hs[j]?.getD []) = true
theorem upto_yes {o : List P2} {hs : List (List P2)} (h0 : okV o = true) (hn : hs.length ≤ 2) (h : Upto o hs hs.length) : plV o hs = true := by
  refine (plV_iff o hs).2 ⟨h0, hn, ?_, ?_, ?_⟩
  · intro x hx
    obtain ⟨i, hi, rfl⟩ := List.getElem_of_mem hx
    have := (h i hi).1
    rwa [List.getElem?_eq_getElem hi, Option.getD_some] at this
  · intro x hx
    obtain ⟨i, hi, rfl⟩ := List.getElem_of_mem hx
    have := (h i hi).2.1
    rwa [List.getElem?_eq_getElem hi, Option.getD_some] at this
  · intro i k hik hk
    rw [beB_comm]; exact (h k hk).2.2 i hik
theorem upto_all' {o : List P2} {hs : List (List P2)} (h : plV o hs = true) : Upto o hs hs.length := by
  have L := (plV_iff o hs).1 h
  intro i hi
  have hm : hs[i]?.getD [] ∈ hs := by rw [List.getElem?_eq_getElem hi, Option.getD_some]; exact List.getElem_mem hi
  exact ⟨L.ok _ hm, L.ar _ hm, fun j hj => by rw [beB_comm]; exact L.be j i hj hi⟩
set_option maxRecDepth 100000 in
set_option maxHeartbeats 8000000 in
theorem sPlateOk_any (a ah : Option Addr) (la ca nh ch : Nat) (o : List P2) (hs : List (List P2)) (w : World) (h : Plt w a la ah nh o hs) :
    Calls Tryd.prog 24 #[.agg #[.slice a la ca, .slice ah nh ch]] w fun e W' => e = .returned (.bool (plV o hs)) ∧ Below w.heap.size w W' := by
  obtain ⟨W, hW, BW, T⟩ : ∃ W, W = w.alloc (.cells #[.slice a la ca, .slice ah nh ch] 40) ∧ Below w.heap.size w W ∧ W.heap[w.heap.size]? = some (.cells #[.slice a la ca, .slice ah nh ch] 40) := ⟨_, rfl, (by repeat (first | exact bw_refl _ | assumption | apply bw_drewN | apply bw_drew | apply bw_alloc | refine bw_set ?_ (by simp) _)), heap_new _ _⟩
  replace h := h.below BW
  have hla := h.1
  have hP := h.2.1
  have hcall := sOk_any a la ca o hla W hP
  obtain ⟨t0, t1⟩ := blk_2 T
  have zT := blk_lt T
  cases hok : okV o
  · rw [hok] at hcall
    have e1 : Hid (plV o hs = false) := by
      change _ = _; rw [Bool.eq_false_iff]; intro hc
      rw [((plV_iff o hs).1 hc).out] at hok; cases hok
    go_enter Tryd.func24, Tryd.ntmps24
    go_upto_region 1 with fail
    rw [← hW]
    clear hW
    go_wp2_with (go_at_call 27; refine hcall.mono ?_; rintro e v ⟨rfl, J⟩)
    go_ret
    exact ⟨ret_bool e1.out.symm, bw_trans BW J⟩
  rw [hok] at hcall
  by_cases hb : 2 < nh
  · have hb' : (2 : Int) < (nh : Int) := by omega
    have e1 : Hid (plV o hs = false) := by
      change _ = _; rw [Bool.eq_false_iff]; intro hc
      have := plV_len hc; have := h.2.2.1; omega
    go_enter Tryd.func24, Tryd.ntmps24
    go_upto_region 1 with fail
    rw [← hW]
    clear hW
    go_wp2_with (go_at_call 27; refine hcall.mono ?_; rintro e v ⟨rfl, J⟩; obtain ⟨t0', t1'⟩ := blk_2 (keep J T))
    go_ret
    exact ⟨ret_bool e1.out.symm, bw_trans BW J⟩
  have hb' : ¬ (2 : Int) < (nh : Int) := by omega
  obtain ⟨_, _, hlen, A, L, C, hS, hH⟩ := h
  have HL : Hid (hs.length = nh) := hlen
  have hfin : Hid (Upto o hs nh → plV o hs = true) := fun hu => upto_yes hok (by omega) (by rw [hlen]; exact hu)
  have hno : Hid (∀ i, i < nh → (okV (hs[i]?.getD []) = true → arB o (hs[i]?.getD []) = true → ∃ j, j < i ∧ beB (hs[i]?.getD []) (hs[j]?.getD []) = false) → plV o hs = false) := fun i hi hc => by
    rw [Bool.eq_false_iff]; intro hv
    have hu := upto_all' hv i (by omega)
    obtain ⟨j, hj, e⟩ := hc hu.1 hu.2.1
    rw [hu.2.2 j hj] at e; cases e
  have hokH : Hid (okV o = true) := hok
  have hPt : Hid (∀ l : List P2, okV l = true → ptB (ptAt l 0).1 (ptAt l 0).2 = true ∧ 3 ≤ l.length) := fun l hl => ⟨by have := okV_pos hl; exact (sgP_pt (((okV_iff l).1 hl).seg 0 (by omega))).1, (okV_pos hl).1⟩
  clear hlen hok
  go_enter Tryd.func24, Tryd.ntmps24
  go_upto_region 1 with fail
  rw [← hW]
  clear hW
  go_wp2_with (go_at_call 27; refine hcall.mono ?_; rintro e v ⟨rfl, J⟩; obtain ⟨t0', t1'⟩ := blk_2 (keep J T))
  replace T := keep J T
  replace hP := (hP.below J).grow J.size
  replace hS := (hS.below J).grow J.size
  replace hH : ∀ j, j < nh → L j ≤ 1048576 ∧ Pts v.heap.size v (A j) (L j) (hs[j]?.getD []) := fun j hj => ⟨(hH j hj).1, ((hH j hj).2.below J).grow J.size⟩
  have K := bw_trans BW J
  clear hcall t0 t1 t0' t1' zT J
  go_loopw [3] (fun i wr => ∃ k : Nat, k ≤ nh ∧ i = .int .i64 k ∧ Upto o hs k ∧ Below v.heap.size v wr) (fun i _ => nh - (intOf i).toNat)
  case atStart => exact ⟨0, Nat.zero_le _, rfl, fun i hi => by omega, bw_refl _⟩
  case round =>
    obtain ⟨i, hi, rfl, hu, hnx⟩ := hrel
    obtain ⟨t0, t1⟩ := blk_2 (keep hnx T)
    have zT := blk_lt (keep hnx T)
    by_cases hlt : i < nh
    case neg =>
      obtain rfl : i = nh := by omega
      have e1 : Hid (plV o hs = true) := hfin.out hu
      clear hu
      go_wp2_with fail
      go_ret
      exact ⟨ret_bool e1.out.symm, bw_trans K hnx⟩
    case pos =>
      rcases hS.below hnx with h0 | ⟨b, off, rfl, hbl, hcs⟩
      · omega
      have c0 := hcs i hlt
      have i0 : (0 : Int) ≤ (i : Int) := Int.natCast_nonneg _
      have i1 : (i : Int) < (nh : Int) := by omega
      obtain ⟨hLi, hPi⟩ := hH i hlt
      have hPw := (hP.below hnx).grow hnx.size
      have hPiw := (hPi.below hnx).grow hnx.size
      have HO : Hid (∀ d os, Calls Tryd.prog 27 #[.slice (A i) (L i) (C i)] (grow (redrawn wr d) os) fun e W' => e = .returned (.bool (okV (hs[i]?.getD []))) ∧ Below (grow (redrawn wr d) os).heap.size (grow (redrawn wr d) os) W') := fun d os =>
        sOk_any (A i) (L i) (C i) _ hLi _ ((hPiw.below (below_regrown wr d os)).grow (below_regrown wr d os).size)
      obtain ⟨hh, hhe⟩ : ∃ hh, hs[i]?.getD [] = hh := ⟨_, rfl⟩
      have HE : Hid (hs[i]?.getD [] = hh) := hhe
      rw [hhe] at HO hPi hPiw
      have hnoi := hno.out i hlt
      rw [hhe] at hnoi
      clear hhe
      obtain ⟨u0, u1⟩ := reg_2 (keep hnx T)
      have c0r := cell_regrown c0
      cases hokh : okV hh
      · have e1 : Hid (plV o hs = false) := hnoi (fun e => by rw [hokh] at e; cases e)
        rw [hokh] at HO
        clear hu hnoi
        go_wp2_with fail
        refine wp_region_quiet_below (by kernel_rfl) (by kernel_rfl) ?_
        repeat (first | go_big_quiet_step (first | (go_at_call 27; with_reducible exact Calls.regrown_of (HO.out _ _))))
        refine wpQuiet_nil ?_
        intro _ hw'
        obtain ⟨⟨dq, osq⟩, hw''⟩ := hw'
        subst hw''
        have J := below_regrown wr dq osq
        generalize grow (redrawn wr dq) osq = v2 at J ⊢
        go_wp2_with fail
        go_ret
        exact ⟨ret_bool e1.out.symm, bw_trans (bw_trans K hnx) J⟩
      rw [hokh] at HO
      have hpt := hPt.out hh hokh
      have HI : Hid (∀ d os, Calls Tryd.prog 49 #[.slice a la ca, .agg #[.int .i64 (ptAt hh 0).1, .int .i64 (ptAt hh 0).2]] (grow (redrawn wr d) os) fun e W' => e = .returned (.int .i64 (inI o (ptAt hh 0))) ∧ Below (grow (redrawn wr d) os).heap.size (grow (redrawn wr d) os) W') := fun d os =>
        sInI_pts a la ca o (ptAt hh 0) hokH.out hpt.1 _ ((hPw.below (below_regrown wr d os)).grow (below_regrown wr d os).size)
      have HA : Hid (∀ d os, Calls Tryd.prog 50 #[.slice a la ca, .slice (A i) (L i) (C i)] (grow (redrawn wr d) os) fun e W' => e = .returned (.bool (apL o hh)) ∧ Below (grow (redrawn wr d) os).heap.size (grow (redrawn wr d) os) W') := fun d os =>
        sApart_pts a (A i) la ca (L i) (C i) o hh hokH.out hokh _ ((hPw.below (below_regrown wr d os)).grow (below_regrown wr d os).size) ((hPiw.below (below_regrown wr d os)).grow (below_regrown wr d os).size)
      have hLi3 : 3 ≤ L i := by have := hpt.2; have := hPi.1; omega
      obtain ⟨bi, offi, hai, hbi, f0, f1⟩ := pts_first hPiw (by omega)
      have f0r := cell_regrown f0
      have f1r := cell_regrown f1
      rw [hai] at HO HA c0r
      have p1 : (0 : Int) < (L i : Int) := by omega
      have har : Hid (arB o hh = ((inI o (ptAt hh 0) == 1) && apL o hh)) := by
        change _ = _; unfold arB; rw [Bool.and_comm]; congr 1
      have hq0 : Hid (ptB (ptAt hh 0).1 (ptAt hh 0).2 = true) := hpt.1
      obtain ⟨qq, hqq⟩ : ∃ qq, ptAt hh 0 = qq := ⟨_, rfl⟩
      have HQ : Hid (ptAt hh 0 = qq) := hqq
      rw [hqq] at HI f0r f1r har hq0
      clear hqq f0 f1 hpt
      generalize inI o qq = u at HI har
      cases hu1 : u == 1
      · have hne : (u != 1) = true := by simp only [bne, hu1, Bool.not_false]
        have e1 : Hid (plV o hs = false) := hnoi (fun _ e => by rw [har.out, hu1] at e; cases e)
        clear hu hnoi har
        go_wp2_with fail
        refine wp_region_quiet_below (by kernel_rfl) (by kernel_rfl) ?_
        repeat (first | go_big_quiet_step (first | (go_at_call 27; with_reducible exact Calls.regrown_of (HO.out _ _)) | (go_at_call 49; with_reducible exact Calls.regrown_of (HI.out _ _))))
        refine wpQuiet_nil ?_
        intro _ hw'
        obtain ⟨⟨dq, osq⟩, hw''⟩ := hw'
        subst hw''
        have J := below_regrown wr dq osq
        generalize grow (redrawn wr dq) osq = v2 at J ⊢
        go_wp2_with fail
        go_ret
        exact ⟨ret_bool e1.out.symm, bw_trans (bw_trans K hnx) J⟩
      obtain rfl : u = 1 := by simpa using hu1
      cases hap : apL o hh
      · have e1 : Hid (plV o hs = false) := hnoi (fun _ e => by rw [har.out, hap] at e; cases e)
        rw [hap] at HA
        clear hu hnoi har hap
        go_wp2_with fail
        refine wp_region_quiet_below (by kernel_rfl) (by kernel_rfl) ?_
        repeat (first | go_big_quiet_step (first | (go_at_call 27; with_reducible exact Calls.regrown_of (HO.out _ _)) | (go_at_call 49; with_reducible exact Calls.regrown_of (HI.out _ _)) | (go_at_call 50; with_reducible exact Calls.regrown_of (HA.out _ _))))
        refine wpQuiet_nil ?_
        intro _ hw'
        obtain ⟨⟨dq, osq⟩, hw''⟩ := hw'
        subst hw''
        have J := below_regrown wr dq osq
        generalize grow (redrawn wr dq) osq = v2 at J ⊢
        go_wp2_with fail
        go_ret
        exact ⟨ret_bool e1.out.symm, bw_trans (bw_trans K hnx) J⟩
      rw [hap] at HA
      have haro : Hid (arB o hh = true) := by change _ = _; rw [har.out, hap]; rfl
      have hokhH : Hid (okV hh = true) := hokh
      have huH : Hid (Upto o hs i) := hu
      have hnoiH : Hid (∀ j, j < i → beB hh (hs[j]?.getD []) = false → plV o hs = false) := fun j hj e => hnoi (fun _ _ => ⟨j, hj, e⟩)
      clear hu hnoi har hap hokh
      go_wp2_with fail
      refine wp_region_quiet_below (by kernel_rfl) (by kernel_rfl) ?_
      repeat (first | go_big_quiet_step (first | (go_at_call 27; with_reducible exact Calls.regrown_of (HO.out _ _)) | (go_at_call 49; with_reducible exact Calls.regrown_of (HI.out _ _)) | (go_at_call 50; with_reducible exact Calls.regrown_of (HA.out _ _))))
      refine wpQuiet_nil ?_
      intro _ hw'
      obtain ⟨⟨dq, osq⟩, hw''⟩ := hw'
      subst hw''
      have J := below_regrown wr dq osq
      generalize grow (redrawn wr dq) osq = v2 at J ⊢
      have hn2 := bw_trans hnx J
      clear J HO HI HA c0r f0r f1r u0 u1 t0 t1 zT hcs c0
      go_wp2_with fail
      go_loopw [5] (fun k wr => ∃ k' : Nat, k' ≤ i ∧ k = .int .i64 k' ∧ (∀ j, j < k' → beB hh (hs[j]?.getD []) = true) ∧ Below v.heap.size v wr) (fun k _ => i - (intOf k).toNat)
      case atStart => exact ⟨0, Nat.zero_le _, rfl, fun j hj => by omega, hn2⟩
      case round =>
        obtain ⟨k, hk, rfl, hrow, hny⟩ := hrel
        by_cases hlt2 : k < i
        case neg =>
          obtain rfl : k = i := by omega
          have hup : Hid (Upto o hs (k + 1)) := fun j hj => by
            rcases Nat.lt_or_ge j k with h | h
            · exact huH.out j h
            · obtain rfl : j = k := by omega
              rw [HE.out]; exact ⟨hokhH.out, haro.out, hrow⟩
          clear hrow
          go_wp2_with fail
          go_roundw
          case rel => exact ⟨k + 1, by omega, by simp, hup.out, hny⟩
          case measure => simp [intOf]; omega
        case pos =>
          obtain ⟨t0, t1⟩ := blk_2 (keep hny T)
          have zT := blk_lt (keep hny T)
          rcases hS.below hny with h0 | ⟨b', off', hbo, hbl', hcs⟩
          · omega
          cases hbo
          have ck := hcs k (by omega)
          clear hcs
          have j0 : (0 : Int) ≤ (k : Int) := Int.natCast_nonneg _
          have j1 : (k : Int) < (nh : Int) := by omega
          obtain ⟨hLk, hPk⟩ := hH k (by omega)
          have hokk := (huH.out k hlt2).1
          have hnok := hnoiH.out k hlt2
          have hrow' : Hid (beB hh (hs[k]?.getD []) = true → ∀ j, j < k + 1 → beB hh (hs[j]?.getD []) = true) := fun e j hj => by
            rcases Nat.lt_or_ge j k with h | h
            · exact hrow j h
            · obtain rfl : j = k := by omega
              exact e
          clear hrow
          generalize hs[k]?.getD [] = hk2 at hPk hokk hnok hrow'
          have hPkw := (hPk.below hny).grow hny.size
          have hPiw' := (hPi.below hny).grow hny.size
          have hpt2 := hPt.out hk2 hokk
          have hLk3 : 3 ≤ L k := by have := hpt2.2; have := hPk.1; omega
          have hI1 : Hid (∀ d os, Calls Tryd.prog 49 #[.slice (A k) (L k) (C k), .agg #[.int .i64 qq.1, .int .i64 qq.2]] (grow (redrawn wr d) os) fun e W' => e = .returned (.int .i64 (inI hk2 qq)) ∧ Below (grow (redrawn wr d) os).heap.size (grow (redrawn wr d) os) W') := fun d os =>
            sInI_pts (A k) (L k) (C k) hk2 qq hokk hq0.out _ ((hPkw.below (below_regrown wr d os)).grow (below_regrown wr d os).size)
          have hI2 : Hid (∀ d os, Calls Tryd.prog 49 #[.slice (A i) (L i) (C i), .agg #[.int .i64 (ptAt hk2 0).1, .int .i64 (ptAt hk2 0).2]] (grow (redrawn wr d) os) fun e W' => e = .returned (.int .i64 (inI hh (ptAt hk2 0))) ∧ Below (grow (redrawn wr d) os).heap.size (grow (redrawn wr d) os) W') := fun d os =>
            sInI_pts (A i) (L i) (C i) hh (ptAt hk2 0) hokhH.out hpt2.1 _ ((hPiw'.below (below_regrown wr d os)).grow (below_regrown wr d os).size)
          have HA1 : Hid (∀ d os, Calls Tryd.prog 50 #[.slice (A i) (L i) (C i), .slice (A k) (L k) (C k)] (grow (redrawn wr d) os) fun e W' => e = .returned (.bool (apL hh hk2)) ∧ Below (grow (redrawn wr d) os).heap.size (grow (redrawn wr d) os) W') := fun d os =>
            sApart_pts (A i) (A k) (L i) (C i) (L k) (C k) hh hk2 hokhH.out hokk _ ((hPiw'.below (below_regrown wr d os)).grow (below_regrown wr d os).size) ((hPkw.below (below_regrown wr d os)).grow (below_regrown wr d os).size)
          obtain ⟨bi2, offi2, hai2, hbi2, f0, f1⟩ := pts_first hPiw' (by omega)
          obtain ⟨bk, offk, hak, hbk, g0, g1⟩ := pts_first hPkw (by omega)
          have f0r := cell_regrown f0
          have f1r := cell_regrown f1
          have g0r := cell_regrown g0
          have g1r := cell_regrown g1
          have ckr := cell_regrown ck
          obtain ⟨u0, u1⟩ := reg_2 (keep hny T)
          rw [hai] at hai2
          cases hai2
          rw [hai] at hI2 HA1
          rw [hak] at hI1 HA1 ckr
          rw [HQ.out] at f0r f1r
          have p2 : (0 : Int) < (L k : Int) := by omega
          have hbe : Hid (beB hh hk2 = (apL hh hk2 && (inI hk2 qq == -1) && (inI hh (ptAt hk2 0) == -1))) := by
            change _ = _; rw [Bool.eq_iff_iff, beB_iff, HQ.out]; simp only [Bool.and_eq_true, beq_iff_eq]
            constructor
            · rintro ⟨h1, h2, h3⟩; exact ⟨⟨h1, h3⟩, h2⟩
            · rintro ⟨⟨h1, h2⟩, h3⟩; exact ⟨h1, h3, h2⟩
          generalize inI hk2 qq = v1 at hI1 hbe
          generalize inI hh (ptAt hk2 0) = v3 at hI2 hbe
          generalize ptAt hk2 0 = q3 at *
          clear f0 f1 g0 g1 ck t0 t1
          cases hap : apL hh hk2
          · rw [hap] at HA1
            have e1 : Hid (plV o hs = false) := hnok (by rw [hbe.out, hap]; rfl)
            clear hnok hbe hrow' hap
            go_wp2_with fail
            refine wp_region_quiet_below (by kernel_rfl) (by kernel_rfl) ?_
            repeat (first | go_big_quiet_step (first | (go_at_call 50; with_reducible exact Calls.regrown_of (HA1.out _ _))))
            refine wpQuiet_nil ?_
            intro _ hw'
            obtain ⟨⟨dq, osq⟩, hw''⟩ := hw'
            subst hw''
            have J := below_regrown wr dq osq
            generalize grow (redrawn wr dq) osq = v4 at J ⊢
            go_wp2_with fail
            go_ret
            exact ⟨ret_bool e1.out.symm, bw_trans (bw_trans K hny) J⟩
          rw [hap] at HA1
          cases hv1 : v1 == -1
          · have hne : (v1 != -1) = true := by simp only [bne, hv1, Bool.not_false]
            have e1 : Hid (plV o hs = false) := hnok (by rw [hbe.out, hap, hv1]; rfl)
            clear hnok hbe hrow' hap
            go_wp2_with fail
            refine wp_region_quiet_below (by kernel_rfl) (by kernel_rfl) ?_
            repeat (first | go_big_quiet_step (first | (go_at_call 50; with_reducible exact Calls.regrown_of (HA1.out _ _)) | (go_at_call 49; with_reducible exact Calls.regrown_of (hI1.out _ _))))
            refine wpQuiet_nil ?_
            intro _ hw'
            obtain ⟨⟨dq, osq⟩, hw''⟩ := hw'
            subst hw''
            have J := below_regrown wr dq osq
            generalize grow (redrawn wr dq) osq = v4 at J ⊢
            go_wp2_with fail
            go_ret
            exact ⟨ret_bool e1.out.symm, bw_trans (bw_trans K hny) J⟩
          obtain rfl : v1 = -1 := by simpa using hv1
          cases hv3 : v3 == -1
          · have hne : (v3 != -1) = true := by simp only [bne, hv3, Bool.not_false]
            have e1 : Hid (plV o hs = false) := hnok (by rw [hbe.out, hap, hv3]; rfl)
            clear hnok hbe hrow' hap
            go_wp2_with fail
            refine wp_region_quiet_below (by kernel_rfl) (by kernel_rfl) ?_
            repeat (first | go_big_quiet_step (first | (go_at_call 50; with_reducible exact Calls.regrown_of (HA1.out _ _)) | (go_at_call 49; with_reducible exact Calls.regrown_of (hI1.out _ _)) | (go_at_call 49; with_reducible exact Calls.regrown_of (hI2.out _ _))))
            refine wpQuiet_nil ?_
            intro _ hw'
            obtain ⟨⟨dq, osq⟩, hw''⟩ := hw'
            subst hw''
            have J := below_regrown wr dq osq
            generalize grow (redrawn wr dq) osq = v4 at J ⊢
            go_wp2_with fail
            go_ret
            exact ⟨ret_bool e1.out.symm, bw_trans (bw_trans K hny) J⟩
          obtain rfl : v3 = -1 := by simpa using hv3
          have hrow2 : Hid (∀ j, j < k + 1 → beB hh (hs[j]?.getD []) = true) := hrow'.out (by rw [hbe.out, hap]; rfl)
          clear hnok hbe hrow' hap
          go_wp2_with fail
          refine wp_region_quiet_below (by kernel_rfl) (by kernel_rfl) ?_
          repeat (first | go_big_quiet_step (first | (go_at_call 50; with_reducible exact Calls.regrown_of (HA1.out _ _)) | (go_at_call 49; with_reducible exact Calls.regrown_of (hI1.out _ _)) | (go_at_call 49; with_reducible exact Calls.regrown_of (hI2.out _ _))))
          refine wpQuiet_nil ?_
          intro _ hw'
          obtain ⟨⟨dq, osq⟩, hw''⟩ := hw'
          subst hw''
          have J := below_regrown wr dq osq
          generalize grow (redrawn wr dq) osq = v4 at J ⊢
          go_wp2_with fail
          go_roundw
          case rel => exact ⟨k + 1, by omega, by simp, hrow2.out, bw_trans hny J⟩
          case measure => simp [intOf]; omega
end Go.Proofs.YtfnhbdanfnpdeaaDoor
