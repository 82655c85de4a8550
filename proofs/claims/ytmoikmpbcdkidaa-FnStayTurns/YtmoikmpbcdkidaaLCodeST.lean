/-
  OUR OWN TEXT. The law FnStayTurns, walked: whatever bytes come in, it answers true and writes nothing that was there.
-/
import Derived.Test.YtmoikmpbcdkidaaDrawCode
import Derived.Test.YtmoikmpbcdkidaaCodeM5
import Derived.Test.YtmoikmpbcdkidaaLuPath
import Derived.Test.YtmoikmpbcdkidaaLuSame
import Derived.Test.YtmoikmpbcdkidaaCodeS
namespace Go.Proofs.Ytmoikmpbcdkidaa
open Go.RowKit Go.Sort

theorem turnsV_of {l : List P2} (h : pathP l = true) : turnsV l = turnsL l := by unfold turnsV; rw [h]; rfl
theorem stayR_of {l : List P2} (h : stayV l = true) : stayR l = stayL l := by unfold stayR; rw [h]; rfl
/-- An answer, as a call takes it. -/
theorem AnsT.take {base top : Nat} {W : World} {v : Value} {l : List P2} (h : AnsT base top W v l) (h1 : 1 ≤ l.length) : ∃ g c, v = .slice (some ⟨g, 0, none⟩) l.length c ∧ l.length ≤ c ∧ PtBlk W g c l l.length := by
  rcases h with ⟨rfl, _⟩ | ⟨g, c, e, _, _, hc, hB⟩
  · simp at h1
  · exact ⟨g, c, e, hc, hB⟩
set_option maxRecDepth 100000 in
set_option maxHeartbeats 4000000 in
theorem stayTurns_walk (w : World) (a0 : Option Addr) (len0 cap0 : Nat) (z0 : List Int) (r0 : IsRow .u8 w a0 len0 cap0 z0) :
    Calls Try.prog 5 #[.slice a0 len0 cap0] w fun e w' => e = .returned (.bool true) ∧ Below w.heap.size w w' := by
  by_cases hl0 : (1048576 : Int) < (len0 : Int)
  · go_enter Try.func5, Try.ntmps5
    go_wp2_with fail
    go_ret
    exact ⟨rfl, bw_refl _⟩
  go_enter Try.func5, Try.ntmps5
  go_wp2_with fail
  refine (drawStay_any w _ r0 (bw_refl _)).mono ?_
  rintro e w1 ⟨g, c, l, rfl, hl1, hl8, hPB, hlc, hb, J1⟩
  have hP1 := hb.pts' rfl
  obtain ⟨n, hn⟩ : ∃ n, n = l.length := ⟨_, rfl⟩
  have HL : Hid (l.length = n) := hn.symm
  rw [← hn] at hP1 hl1 hl8 hlc
  rw [← hn]
  clear hb hn
  have hSS := sCodeStay_any (some ⟨g, 0, none⟩) n c l w1 (by omega) hP1
  have hII := fun V (J : Below w1.heap.size w1 V) => codeStay_any (some ⟨g, 0, none⟩) n c l V (by omega) hlc ((hP1.below J).grow J.size)
  have h400 := stayR_len l
  have hbb : ∀ b : Bool, (b != b) = false := by simp
  cases hv : stayV l with
  | false =>
    rw [hv] at hSS hII
    go_wp2_with fail
    refine hSS.mono ?_
    rintro e w2 ⟨v2, rfl, A2, J2⟩
    go_wp2_with fail
    refine (hII _ J2).mono ?_
    rintro e w3 ⟨v3, rfl, A3, J3⟩
    replace A2 := A2.below J3
    obtain ⟨a2, c2, rfl, P2'⟩ := A2.own
    obtain ⟨a3, c3, rfl, P3⟩ := A3.own
    go_wp2_with fail
    refine (luSame_same a3 a2 (stayR l).length c3 c2 (stayR l) w3 P3 P2' (by omega)).mono ?_
    rintro e w4 ⟨rfl, J4⟩
    go_wp2_with fail
    refine (luSame_same a3 a2 (stayR l).length c3 c2 (stayR l) w4 ((P3.below J4).grow J4.size) ((P2'.below J4).grow J4.size) (by omega)).mono ?_
    rintro e w5 ⟨rfl, J5⟩
    go_wp2_with fail
    go_ret
    exact ⟨rfl, bw_trans J1 (bw_trans J2 (bw_trans J3 (bw_trans J4 J5)))⟩
  | true =>
    rw [hv] at hSS hII
    have eR := stayR_of hv
    rw [eR] at hSS hII h400
    have hpath := stay_path hv
    obtain ⟨ht1, ht2⟩ := turns_stay hv
    have hps := pathP_parts hpath
    obtain ⟨hsv, hsl⟩ := stayV_turns hpath
    have hT1 := turnsL_nil hps.1.1
    rw [HL.out] at ht2
    go_wp2_with fail
    refine hSS.mono ?_
    rintro e w2 ⟨v2, rfl, A2, J2⟩
    go_wp2_with fail
    refine (hII _ J2).mono ?_
    rintro e w3 ⟨v3, rfl, A3, J3⟩
    replace A2 := A2.below J3
    obtain ⟨a2, c2, rfl, P2'⟩ := A2.own
    obtain ⟨g3, c3, rfl, hc3, hB3⟩ := A3.take hps.1.1
    have P3 := hB3.pts' rfl
    go_wp2_with fail
    refine (luSame_same _ a2 (stayL l).length c3 c2 (stayL l) w3 P3 P2' (by omega)).mono ?_
    rintro e w4 ⟨rfl, J4⟩
    have hTu := codeTurns_any (some ⟨g3, 0, none⟩) (stayL l).length c3 (stayL l) w4 (by omega) hc3 ((P3.below J4).grow J4.size)
    rw [turnsV_of hpath] at hTu
    go_wp2_with fail
    refine hTu.mono ?_
    rintro e w5 ⟨v5, rfl, A5, J5⟩
    obtain ⟨g5, c5, rfl, hc5, hB5⟩ := A5.take hT1
    have P5 := hB5.pts' rfl
    have hSt := codeStay_any (some ⟨g5, 0, none⟩) (turnsL (stayL l)).length c5 (turnsL (stayL l)) w5 (by omega) hc5 P5
    rw [hsv, stayR_of hsv, hsl] at hSt
    go_wp2_with fail
    refine hSt.mono ?_
    rintro e w6 ⟨v6, rfl, A6, J6⟩
    obtain ⟨a6, c6, rfl, P6⟩ := A6.own
    have J46 := bw_trans J4 (bw_trans J5 J6)
    have J16 := bw_trans J2 (bw_trans J3 J46)
    have X1 : Hid (∀ V, Below w6.heap.size w6 V → Calls Try.prog 11 #[.slice a6 (stayL l).length c6, .slice (some ⟨g3, 0, none⟩) (stayL l).length c3] V fun e w' => e = .returned (.bool true) ∧ Below V.heap.size V w') := fun V J => luSame_same _ _ _ _ _ (stayL l) V ((P6.below J).grow J.size) ((P3.below (bw_trans J46 J)).grow (bw_trans J46 J).size) (by omega)
    have X2 : Hid (∀ V, Below w6.heap.size w6 V → Calls Try.prog 15 #[.slice (some ⟨g5, 0, none⟩) (turnsL (stayL l)).length c5, .slice (some ⟨g, 0, none⟩) n c] V fun e w' => e = .returned (.bool true) ∧ Below V.heap.size V w') := fun V J => luPart_ok _ _ _ _ _ _ (turnsL (stayL l)) l V (by omega) (by omega) ((P5.below (bw_trans J6 J)).grow (bw_trans J6 J).size) ((hP1.below (bw_trans J16 J)).grow (bw_trans J16 J).size) ht1
    have i1 : ((turnsL (stayL l)).length : Int) ≤ (n : Int) := by omega
    generalize (turnsL (stayL l)).length = tn at *
    generalize (stayL l).length = sn at *
    go_wp2_with fail
    refine (X1.out _ (bw_refl _)).mono ?_
    rintro e w7 ⟨rfl, J7⟩
    go_wp2_with fail
    refine (X2.out _ J7).mono ?_
    rintro e w8 ⟨rfl, J8⟩
    go_wp2_with fail
    go_ret
    exact ⟨rfl, bw_trans J1 (bw_trans J16 (bw_trans J7 J8))⟩
end Go.Proofs.Ytmoikmpbcdkidaa
