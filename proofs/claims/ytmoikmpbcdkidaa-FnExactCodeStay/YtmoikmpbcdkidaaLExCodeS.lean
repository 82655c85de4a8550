/-
  OUR OWN TEXT. The exact law of CodeStay, walked.
-/
import Derived.Test.YtmoikmpbcdkidaaCodeS
namespace Go.Proofs.Ytmoikmpbcdkidaa
open Go.RowKit Go.Sort

set_option maxRecDepth 100000 in
set_option maxHeartbeats 2000000 in
theorem exCodeStay_walk (W : World) (a : Option Addr) (len cap : Nat) (l : List P2) (hC : Came W a len cap l) :
    Calls Try.prog 8 #[.slice a len cap] W fun e w' => e = .returned (.bool true) ∧ Below W.heap.size W w' := by
  have hm := hC.len.2
  have hl := hC.len.1
  have hP := hC.pts
  clear hC
  by_cases hlen : (1048576 : Int) < (len : Int)
  · have hz : ∀ w, Calls Try.prog 22 #[.slice a len cap, .int .i64 1048576] w fun e w' => e = .returned (.int .i64 (-1)) ∧ w' = w := fun w => by
      have := sz_any a len cap 1048576 (by omega) (by omega) hm w; rwa [if_pos hlen] at this
    go_enter Try.func8, Try.ntmps8
    go_wp2_with (go_at_call 22; refine (hz _).mono ?_; rintro e w' ⟨rfl, rfl⟩)
    go_ret
    exact ⟨rfl, (by repeat (first | exact bw_refl _ | assumption | apply bw_drewN | apply bw_drew | apply bw_alloc | refine bw_set ?_ (by simp) _))⟩
  have hz : ∀ w, Calls Try.prog 22 #[.slice a len cap, .int .i64 1048576] w fun e w' => e = .returned (.int .i64 (1048576 - len)) ∧ w' = w := fun w => by
    have := sz_any a len cap 1048576 (by omega) (by omega) hm w; rwa [if_neg hlen] at this
  have hn : len ≤ 1048576 := by omega
  have hnn : ¬ (1048576 - (len : Int) < 0) := by omega
  have hse := stayR_len l
  have hbb : (stayV l != stayV l) = false := by simp
  have n1 : ¬ (1 + 2 * (len : Int) < 0) := by omega
  have n2 : ¬ (1 + 2 * ((stayR l).length : Int) < 0) := by omega
  go_enter Try.func8, Try.ntmps8
  go_wp2_with (go_at_call 22; refine (hz _).mono ?_; rintro e w' ⟨rfl, rfl⟩)
  refine (toPts_any a len cap l _ hP hn).mono ?_
  rintro e w1 ⟨g1, rfl, hg1, hb1, J1⟩
  go_wp2_with fail
  refine (sCodeStay_any _ len len l _ hn (hb1.pts hl)).mono ?_
  rintro e w2 ⟨v2, rfl, A2, J2⟩
  have K2 := bw_trans J1 J2
  go_wp2_with fail
  refine (toPts_any a len cap l _ ((hP.below K2).grow K2.size) hn).mono ?_
  rintro e w3 ⟨g3, rfl, hg3, hb3, J3⟩
  have hg33 := hb3.lt
  have K3 := bw_trans K2 J3
  replace A2 := A2.below J3
  go_wp2_with fail
  refine (codeStay_any _ len len l _ hn (Nat.le_refl _) (hb3.pts hl)).mono ?_
  rintro e w4 ⟨v4, rfl, A4, J4⟩
  have K4 := bw_trans K3 J4
  replace A2 := A2.below J4
  replace hb3 := hb3.below J4
  go_wp2_with fail
  refine (eqAns_same _ _ _ _ v4 v2 _ _ A4 A2 (by omega)).mono ?_
  rintro e w5 ⟨rfl, J5⟩
  have K5 := bw_trans K4 J5
  replace A2 := A2.below J5
  replace A4 := A4.below J5
  replace hb3 := hb3.below J5
  go_wp2_with fail
  refine (toPts_any a len cap l _ ((hP.below K5).grow K5.size) hn).mono ?_
  rintro e w6 ⟨g6, rfl, hg6, hb6, J6⟩
  have K6 := bw_trans K5 J6
  replace A2 := A2.below J6
  replace A4 := A4.below J6
  replace hb3 := hb3.below J6
  go_wp2_with fail
  refine (eqPts_same _ _ len _ _ l _ (hb3.pts hl) (hb6.pts hl) hn).mono ?_
  rintro e w7 ⟨rfl, J7⟩
  have K7 := bw_trans K6 J7
  replace A2 := A2.below J7
  replace A4 := A4.below J7
  replace hb3 := hb3.below J7
  go_wp2_with fail
  refine (markPts_any g3 len len (len * 2) 1 _ hb3.own (Nat.le_refl _) hn (by omega) (by omega)).mono ?_
  rintro e w8 ⟨rfl, -, hO8, O8⟩
  have z2 := J2.size
  have z1 := J1.size
  have z3 := J3.size
  have z37 : w3.heap.size ≤ w7.heap.size := by have := J4.size; have := J5.size; have := J6.size; have := J7.size; omega
  have K8 : Below w'.heap.size w' w8 := K7.trans (O8.below' (B := w'.heap.size) (by omega) (by omega))
  replace A2 := A2.only O8 (.inr hg3)
  replace A4 := A4.only O8 (.inl hg33)
  go_wp2_with fail
  refine (eqAns_same _ _ _ _ v4 v2 _ _ A4 A2 (by omega)).mono ?_
  rintro e w9 ⟨rfl, J9⟩
  have K9 := bw_trans K8 J9
  replace A2 := A2.below J9
  replace A4 := A4.below J9
  go_wp2_with fail
  refine (markAns_any _ _ v4 _ _ A4 (by omega)).mono ?_
  rintro e w10 ⟨rfl, N10, r, hr, hr2, O10⟩
  have z9 : w3.heap.size ≤ w9.heap.size := by have := O8.size; have := J9.size; omega
  have K10 : Below w'.heap.size w' w10 := K9.trans (O10.below' (B := w'.heap.size) (by omega) (by omega))
  replace A2 := A2.only O10 (.inr (by omega))
  go_wp2_with fail
  refine (heldAns_any _ _ _ v4 _ N10 (by omega)).mono ?_
  rintro e w11 ⟨rfl, J11⟩
  have K11 := bw_trans K10 J11
  replace A2 := A2.below J11
  replace N10 := N10.below J11
  go_wp2_with fail
  refine (toPts_any a len cap l _ ((hP.below K11).grow K11.size) hn).mono ?_
  rintro e w12 ⟨g12, rfl, hg12, hb12, J12⟩
  have K12 := bw_trans K11 J12
  replace A2 := A2.below J12
  replace N10 := N10.below J12
  go_wp2_with fail
  refine (codeStay_any _ len len l _ hn (Nat.le_refl _) (hb12.pts hl)).mono ?_
  rintro e w13 ⟨v13, rfl, A13, J13⟩
  have K13 := bw_trans K12 J13
  replace A2 := A2.below J13
  replace N10 := N10.below J13
  go_wp2_with fail
  refine (eqAns_same _ _ _ _ v13 v2 _ _ A13 A2 (by omega)).mono ?_
  rintro e w14 ⟨rfl, J14⟩
  have K14 := bw_trans K13 J14
  replace N10 := N10.below J14
  go_wp2_with fail
  refine (heldAns_any _ _ _ v4 _ N10 (by omega)).mono ?_
  rintro e w15 ⟨rfl, J15⟩
  go_wp2_with fail
  go_ret
  exact ⟨rfl, bw_trans K14 J15⟩
end Go.Proofs.Ytmoikmpbcdkidaa
