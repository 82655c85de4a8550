/-
  OUR OWN TEXT. The law FnCodeOver, walked: whatever bytes come in, it answers true and writes nothing that was there.
-/
import Derived.Test.YtmoikmpbcdkidaaDrawTurns
import Derived.Test.YtmoikmpbcdkidaaCodeM5
import Derived.Test.YtmoikmpbcdkidaaLuSame
import Derived.Test.YtmoikmpbcdkidaaLuL
import Derived.Test.YtmoikmpbcdkidaaCodeU
import Derived.Test.YtmoikmpbcdkidaaSCodeU
namespace Go.Proofs.Ytmoikmpbcdkidaa
open Go.RowKit Go.Sort

theorem turnsVo_of {l : List P2} (h : pathP l = true) : turnsV l = turnsL l := by unfold turnsV; rw [h]; rfl
theorem turnsVo_no {l : List P2} (h : pathP l = false) : turnsV l = [] := by unfold turnsV; rw [h]; rfl
theorem AnsT.takeo {base top : Nat} {W : World} {v : Value} {l : List P2} (h : AnsT base top W v l) (h1 : 1 ≤ l.length) : ∃ g c, v = .slice (some ⟨g, 0, none⟩) l.length c ∧ l.length ≤ c ∧ PtBlk W g c l l.length := by
  rcases h with ⟨rfl, _⟩ | ⟨g, c, e, _, _, hc, hB⟩
  · simp at h1
  · exact ⟨g, c, e, hc, hB⟩
theorem blk_cap {W : World} {g c n : Nat} {l : List P2} (h : PtBlk W g c l n) : n ≤ c := by
  obtain ⟨cur, _, hs, hc⟩ := h
  rcases Nat.eq_zero_or_pos n with h0 | h0
  · omega
  · have := (hc (n - 1) (by omega)).2
    have := (Array.getElem?_eq_some_iff.1 this).1
    omega
set_option maxRecDepth 100000 in
set_option maxHeartbeats 4000000 in
theorem over_walk (w : World) (a0 : Option Addr) (len0 cap0 : Nat) (z0 : List Int) (r0 : IsRow .u8 w a0 len0 cap0 z0) :
    Calls Try.prog 6 #[.slice a0 len0 cap0] w fun e w' => e = .returned (.bool true) ∧ Below w.heap.size w w' := by
  by_cases hl0 : (1048576 : Int) < (len0 : Int)
  · go_enter Try.func6, Try.ntmps6
    go_wp2_with fail
    go_ret
    exact ⟨rfl, bw_refl _⟩
  go_enter Try.func6, Try.ntmps6
  go_wp2_with fail
  refine (drawTurns_any w _ r0 (bw_refl _)).mono ?_
  rintro e w1 ⟨g, c, l, rfl, _, hl20, hPB, hlc, hb, J1⟩
  have hP1 := hb.pts' rfl
  have hII := codeTurns_any (some ⟨g, 0, none⟩) l.length c l w1 (by omega) hlc hP1
  have hSS := fun V (J : Below w1.heap.size w1 V) => sCodeTurns_any (some ⟨g, 0, none⟩) l.length c l V (by omega) ((hP1.below J).grow J.size)
  cases hp : pathP l with
  | false =>
    rw [turnsVo_no hp] at hSS hII
    go_wp2_with fail
    refine hII.mono ?_
    rintro e w2 ⟨v2, rfl, A2, J2⟩
    go_wp2_with fail
    refine (hSS _ J2).mono ?_
    rintro e w3 ⟨v3, rfl, A3, J3⟩
    replace A2 := A2.below J3
    obtain ⟨a2, c2, rfl, P2'⟩ := A2.own
    obtain ⟨a3, c3, rfl, P3⟩ := A3.own
    go_wp2_with fail
    refine (luSame_same a2 a3 0 c2 c3 [] w3 P2' P3 (by omega)).mono ?_
    rintro e w4 ⟨rfl, J4⟩
    go_wp2_with fail
    refine (hSS _ (bw_trans J2 (bw_trans J3 J4))).mono ?_
    rintro e w5 ⟨v5, rfl, A5, J5⟩
    obtain ⟨a5, c5, rfl, P5⟩ := A5.own
    go_wp2_with fail
    refine (luSame_same a2 a5 0 c2 c5 [] w5 ((P2'.below (bw_trans J4 J5)).grow (bw_trans J4 J5).size) P5 (by omega)).mono ?_
    rintro e w6 ⟨rfl, J6⟩
    go_wp2_with fail
    go_ret
    exact ⟨rfl, bw_trans J1 (bw_trans J2 (bw_trans J3 (bw_trans J4 (bw_trans J5 J6))))⟩
  | true =>
    have hps := pathP_parts hp
    obtain ⟨n, hn⟩ : ∃ n, n = l.length := ⟨_, rfl⟩
    obtain ⟨t, ht⟩ : ∃ t, t = turnsL l := ⟨_, rfl⟩
    obtain ⟨m, hm⟩ : ∃ m, m = t.length := ⟨_, rfl⟩
    have hT1 : 1 ≤ m := by rw [hm, ht]; exact turnsL_nil hps.1.1
    have hTl : m ≤ n := by rw [hm, ht, hn]; exact turnsK_len _ _
    have hn1 : 1 ≤ n := by rw [hn]; exact hps.1.1
    have hn20 : n ≤ 20 := by rw [hn]; exact hl20
    have HV : Hid (turnsV l = t) := by change _ = _; rw [ht]; exact turnsVo_of hp
    rw [HV.out, ← hn] at hSS hII
    have HL : Hid (l.length = n) := hn.symm
    have HT : Hid (t.length = m) := hm.symm
    have hok : ∀ (q : List P2), (∀ p ∈ q, p ∈ l) → ∀ i, i < q.length → ptB (ptAt q i).1 (ptAt q i).2 = true := fun q hq i hi => by
      have := hps.2.1 (ptAt q i) (hq _ (by rw [ptAt_lt hi]; exact List.getElem_mem _))
      exact this
    have HP : Hid (∀ i, i < n → ptB (ptAt l i).1 (ptAt l i).2 = true) := fun i hi => hok l (fun _ h => h) i (by rw [HL.out]; exact hi)
    have HQ : Hid (∀ i, i < m → ptB (ptAt t i).1 (ptAt t i).2 = true) := fun i hi => hok t (fun _ h => by rw [ht] at h; exact turnsL_mem h) i (by rw [HT.out]; exact hi)
    have EM : Hid (turnsV (l.map mirP) = t.map mirP) := by change _ = _; rw [turnsVo_of (path_map okP_mir besP_mir hp), turns_map dP_mir, ht]
    have EW : Hid (turnsV (l.map swpP) = t.map swpP) := by change _ = _; rw [turnsVo_of (path_map okP_swp besP_swp hp), turns_map dP_swp, ht]
    have ER : Hid (turnsV l.reverse = t.reverse) := by change _ = _; rw [turnsVo_of (path_rev hp), turns_rev, ht]
    have L1 : Hid ((l.map mirP).length = n) := by change _ = _; rw [List.length_map]; exact HL.out
    have L2 : Hid ((l.map swpP).length = n) := by change _ = _; rw [List.length_map]; exact HL.out
    have L3 : Hid (l.reverse.length = n) := by change _ = _; rw [List.length_reverse]; exact HL.out
    have M1 : Hid ((t.map mirP).length = m) := by change _ = _; rw [List.length_map]; exact HT.out
    have M2 : Hid ((t.map swpP).length = m) := by change _ = _; rw [List.length_map]; exact HT.out
    have M3 : Hid (t.reverse.length = m) := by change _ = _; rw [List.length_reverse]; exact HT.out
    rw [← hn] at hb hlc hP1
    rw [← hn]
    clear hn hm ht hp hps hok hl20
    go_wp2_with fail
    refine hII.mono ?_
    rintro e w2 ⟨v2, rfl, A2, J2⟩
    go_wp2_with fail
    refine (hSS _ J2).mono ?_
    rintro e w3 ⟨v3, rfl, A3, J3⟩
    replace A2 := A2.below J3
    obtain ⟨g2, c2, rfl, hc2, hB2⟩ := A2.takeo (by rw [HT.out]; exact hT1)
    obtain ⟨a3, c3, rfl, P3⟩ := A3.own
    rw [HT.out] at P3 hB2 hc2
    rw [HT.out]
    have P2' := hB2.pts' HT.out
    have nz : (m = 0) = False := by simp; omega
    have nz2 : ((m : Int) == 0) = false := by simp; omega
    go_wp2_with fail
    refine (luSame_same (some ⟨g2, 0, none⟩) a3 m c2 c3 t w3 P2' P3 (by omega)).mono ?_
    rintro e w4 ⟨rfl, J4⟩
    have J14 := bw_trans J2 (bw_trans J3 J4)
    clear P3 P2' hII hSS A2 A3
    go_wp2_with fail
    refine (luOver_ok mirP false g n c l w4 (fun i hi w => luPlace_f _ (HP.out i hi) w) (hb.below J14) HL.out hn1 (by omega)).mono ?_
    rintro e wa1 ⟨gx1, cx1, rfl, hBx, Jx⟩
    rw [L1.out] at hBx
    rw [L1.out]
    have hT := codeTurns_any (some ⟨gx1, 0, none⟩) n cx1 (l.map mirP) wa1 (by omega) (blk_cap hBx) (hBx.pts' L1.out)
    rw [EM.out] at hT
    clear hBx
    go_wp2_with fail
    refine hT.mono ?_
    clear hT
    rintro e wb1 ⟨vx, rfl, Ax, Jy⟩
    obtain ⟨ax1, cy1, rfl, Px⟩ := Ax.own
    rw [M1.out] at Px
    rw [M1.out]
    clear Ax
    have K61 := bw_trans J4 (bw_trans Jx Jy)
    go_wp2_with fail
    refine (luOver_ok mirP false g2 m c2 t wb1 (fun i hi w => luPlace_f _ (HQ.out i hi) w) (hB2.below K61) HT.out hT1 (by omega)).mono ?_
    rintro e wc1 ⟨gy1, cz1, rfl, hBy, Jz⟩
    rw [M1.out] at hBy
    rw [M1.out]
    go_wp2_with fail
    refine (luSame_same ax1 (some ⟨gy1, 0, none⟩) m cy1 cz1 (t.map mirP) wc1 ((Px.below Jz).grow Jz.size) (hBy.pts' M1.out) (by omega)).mono ?_
    clear Px hBy
    rintro e wd1 ⟨rfl, Ju⟩
    have K81 := bw_trans K61 (bw_trans Jz Ju)
    have K11 := bw_trans J14 (bw_trans Jx (bw_trans Jy (bw_trans Jz Ju)))
    clear Jx Jy Jz Ju K61
    go_wp2_with fail
    refine (luOver_ok swpP true g n c l wd1 (fun i hi w => luPlace_t _ w) (hb.below K11) HL.out hn1 (by omega)).mono ?_
    rintro e wa2 ⟨gx2, cx2, rfl, hBx, Jx⟩
    rw [L2.out] at hBx
    rw [L2.out]
    have hT := codeTurns_any (some ⟨gx2, 0, none⟩) n cx2 (l.map swpP) wa2 (by omega) (blk_cap hBx) (hBx.pts' L2.out)
    rw [EW.out] at hT
    clear hBx
    go_wp2_with fail
    refine hT.mono ?_
    clear hT
    rintro e wb2 ⟨vx, rfl, Ax, Jy⟩
    obtain ⟨ax2, cy2, rfl, Px⟩ := Ax.own
    rw [M2.out] at Px
    rw [M2.out]
    clear Ax
    have K62 := bw_trans K81 (bw_trans Jx Jy)
    go_wp2_with fail
    refine (luOver_ok swpP true g2 m c2 t wb2 (fun i hi w => luPlace_t _ w) (hB2.below K62) HT.out hT1 (by omega)).mono ?_
    rintro e wc2 ⟨gy2, cz2, rfl, hBy, Jz⟩
    rw [M2.out] at hBy
    rw [M2.out]
    go_wp2_with fail
    refine (luSame_same ax2 (some ⟨gy2, 0, none⟩) m cy2 cz2 (t.map swpP) wc2 ((Px.below Jz).grow Jz.size) (hBy.pts' M2.out) (by omega)).mono ?_
    clear Px hBy
    rintro e wd2 ⟨rfl, Ju⟩
    have K82 := bw_trans K62 (bw_trans Jz Ju)
    have K12 := bw_trans K11 (bw_trans Jx (bw_trans Jy (bw_trans Jz Ju)))
    clear Jx Jy Jz Ju K62
    go_wp2_with fail
    refine (luBackward_ok g n c l wd2 (hb.below K12) HL.out hn1 (by omega)).mono ?_
    rintro e wa3 ⟨gx3, cx3, rfl, hBx, Jx⟩
    rw [L3.out] at hBx
    rw [L3.out]
    have hT := codeTurns_any (some ⟨gx3, 0, none⟩) n cx3 l.reverse wa3 (by omega) (blk_cap hBx) (hBx.pts' L3.out)
    rw [ER.out] at hT
    clear hBx
    go_wp2_with fail
    refine hT.mono ?_
    clear hT
    rintro e wb3 ⟨vx, rfl, Ax, Jy⟩
    obtain ⟨ax3, cy3, rfl, Px⟩ := Ax.own
    rw [M3.out] at Px
    rw [M3.out]
    clear Ax
    have K63 := bw_trans K82 (bw_trans Jx Jy)
    go_wp2_with fail
    refine (luBackward_ok g2 m c2 t wb3 (hB2.below K63) HT.out hT1 (by omega)).mono ?_
    rintro e wc3 ⟨gy3, cz3, rfl, hBy, Jz⟩
    rw [M3.out] at hBy
    rw [M3.out]
    go_wp2_with fail
    refine (luSame_same ax3 (some ⟨gy3, 0, none⟩) m cy3 cz3 t.reverse wc3 ((Px.below Jz).grow Jz.size) (hBy.pts' M3.out) (by omega)).mono ?_
    clear Px hBy
    rintro e wd3 ⟨rfl, Ju⟩
    have K83 := bw_trans K63 (bw_trans Jz Ju)
    have K13 := bw_trans K12 (bw_trans Jx (bw_trans Jy (bw_trans Jz Ju)))
    clear Jx Jy Jz Ju K63
    go_wp2_with fail
    go_ret
    exact ⟨rfl, bw_trans J1 K13⟩
end Go.Proofs.Ytmoikmpbcdkidaa
