/-
  OUR OWN TEXT. The law FnLoopTurned, walked: whatever bytes come in, it answers true and writes nothing that was there.
-/
import Derived.Test.YtbpcedaipkfdhaaLuL
import Derived.Test.YtbpcedaipkfdhaaOk
import Derived.Test.YtbpcedaipkfdhaaSOk
namespace Go.Proofs.Ytbpcedaipkfdhaa
open Go.RowKit Go.Sort

theorem loopTurned_long (w : World) (a0 a1 : Option Addr) (len0 cap0 len1 cap1 : Nat) (h : 1048576 < len0 ∨ (len0 ≤ 1048576 ∧ 1048576 < len1)) :
    Calls Try.prog 5 #[.slice a0 len0 cap0, .slice a1 len1 cap1] w fun e w' => e = .returned (.bool true) ∧ Below w.heap.size w w' := by
  rcases h with h | ⟨h, h2⟩
  · go_enter Try.func5, Try.ntmps5
    go_wp2
    go_ret
    exact ⟨rfl, bw_refl _⟩
  · have h' : ¬ (1048576 < len0) := by omega
    go_enter Try.func5, Try.ntmps5
    go_wp2
    go_ret
    exact ⟨rfl, bw_refl _⟩
set_option maxRecDepth 100000 in
set_option maxHeartbeats 4000000 in
theorem loopTurned_walk (w : World) (a0 : Option Addr) (len0 cap0 : Nat) (z0 : List Int) (r0 : IsRow .u8 w a0 len0 cap0 z0) (a1 : Option Addr) (len1 cap1 : Nat) (z1 : List Int) (_ : IsRow .u8 w a1 len1 cap1 z1) :
    Calls Try.prog 5 #[.slice a0 len0 cap0, .slice a1 len1 cap1] w fun e w' => e = .returned (.bool true) ∧ Below w.heap.size w w' := by
  by_cases hl : 1048576 < len0 ∨ (len0 ≤ 1048576 ∧ 1048576 < len1)
  · exact loopTurned_long w a0 a1 len0 cap0 len1 cap1 hl
  have hl0 : len0 ≤ 1048576 := by omega
  have hl1 : len1 ≤ 1048576 := by omega
  clear hl
  go_enter Try.func5, Try.ntmps5
  go_wp2_with fail
  refine (drawOk_any w _ r0 (bw_refl _)).mono ?_
  rintro e w1 ⟨vv, l, n, rfl, ⟨g, c, rfl, n3, n7, hl, hnc, hcm, hbg, hb⟩, J1⟩
  have hP1 := hb.pts' hl
  cases hok : okV l
  case false =>
    go_wp2_with fail
    refine (ok_any _ n c l (by omega) _ hP1).mono ?_
    rw [hok]
    rintro e w2 ⟨rfl, J2⟩
    go_wp2_with fail
    refine (sOk_any _ n c l (by omega) _ ((hP1.below J2).grow J2.size)).mono ?_
    rw [hok]
    rintro e w3 ⟨rfl, J3⟩
    have K3 := bw_trans J2 J3
    go_wp2_with fail
    refine (sOk_any _ n c l (by omega) _ ((hP1.below K3).grow K3.size)).mono ?_
    rw [hok]
    rintro e w4 ⟨rfl, J4⟩
    go_wp2_with fail
    go_ret
    exact ⟨rfl, bw_trans J1 (bw_trans K3 J4)⟩
  case true =>
    have hO := (okV_iff l).1 hok
    obtain ⟨k, hk⟩ : ∃ k : Nat, (len1 : Int).tmod (n : Int) = (k : Int) := ⟨((len1 : Int).tmod (n : Int)).toNat, by rw [Int.toNat_of_nonneg]; exact (tmod_bd (len1 : Int) n (by omega) (by omega)).1⟩
    have hkn : k < n := by have := (tmod_bd (len1 : Int) (n : Int) (by omega) (by omega)).2; omega
    have hz : (n = 0) = False := by simp; omega
    have ok1 : okV (rot k l) = true := (okV_iff _).2 (hO.rot (by omega))
    have ok2 : okV l.reverse = true := (okV_iff _).2 hO.rev
    have ok3 : okV (l.map mirP) = true := (okV_iff _).2 (hO.side mir_side)
    have ok4 : okV (l.map swpP) = true := (okV_iff _).2 (hO.side swp_side)
    have HP : Hid (∀ i, i < n → ptB (ptAt l i).1 (ptAt l i).2 = true) := fun i hi => (sgP_pt (hO.seg i (by omega))).1
    have L1 : (rot k l).length = n := by rw [rot_len (by omega), hl]
    have L2 : l.reverse.length = n := by rw [List.length_reverse, hl]
    have L3 : (l.map mirP).length = n := by rw [List.length_map, hl]
    have L4 : (l.map swpP).length = n := by rw [List.length_map, hl]
    clear hO
    go_wp2_with fail
    refine (ok_any _ n c l (by omega) _ hP1).mono ?_
    rw [hok]
    rintro e w2 ⟨rfl, J2⟩
    go_wp2_with fail
    refine (sOk_any _ n c l (by omega) _ ((hP1.below J2).grow J2.size)).mono ?_
    rw [hok]
    rintro e w3 ⟨rfl, J3⟩
    have K3 := bw_trans J2 J3
    clear hP1
    go_wp2_with fail
    refine (luTurned_ok g n c k l w3 (hb.below K3) hl (by omega) hnc hcm hkn).mono ?_
    rintro e w4 ⟨g4, c4, rfl, hb4, J4⟩
    have K4 := bw_trans K3 J4
    rw [L1] at hb4
    rw [L1]
    go_wp2_with fail
    refine (ok_any _ n c4 (rot k l) (by omega) _ (hb4.pts' L1)).mono ?_
    rw [ok1]
    rintro e w5 ⟨rfl, J5⟩
    have K5 := bw_trans K4 J5
    go_wp2_with fail
    refine (luBackward_ok g n c l w5 (hb.below K5) hl (by omega) (by omega)).mono ?_
    rintro e w6 ⟨g6, c6, rfl, hb6, J6⟩
    have K6 := bw_trans K5 J6
    rw [L2] at hb6
    rw [L2]
    go_wp2_with fail
    refine (ok_any _ n c6 l.reverse (by omega) _ (hb6.pts' L2)).mono ?_
    rw [ok2]
    rintro e w7 ⟨rfl, J7⟩
    have K7 := bw_trans K6 J7
    go_wp2_with fail
    refine (luOver_ok mirP false g n c l w7 (fun i hi w => luPlace_f _ (HP.out i hi) w) (hb.below K7) hl (by omega) (by omega)).mono ?_
    rintro e w8 ⟨g8, c8, rfl, hb8, J8⟩
    have K8 := bw_trans K7 J8
    rw [L3] at hb8
    rw [L3]
    go_wp2_with fail
    refine (ok_any _ n c8 (l.map mirP) (by omega) _ (hb8.pts' L3)).mono ?_
    rw [ok3]
    rintro e w9 ⟨rfl, J9⟩
    have K9 := bw_trans K8 J9
    go_wp2_with fail
    refine (luOver_ok swpP true g n c l w9 (fun i hi w => luPlace_t _ w) (hb.below K9) hl (by omega) (by omega)).mono ?_
    rintro e w10 ⟨g10, c10, rfl, hb10, J10⟩
    have K10 := bw_trans K9 J10
    rw [L4] at hb10
    rw [L4]
    go_wp2_with fail
    refine (ok_any _ n c10 (l.map swpP) (by omega) _ (hb10.pts' L4)).mono ?_
    rw [ok4]
    rintro e w11 ⟨rfl, J11⟩
    go_wp2_with fail
    go_ret
    exact ⟨rfl, bw_trans J1 (bw_trans K10 J11)⟩
end Go.Proofs.Ytbpcedaipkfdhaa
