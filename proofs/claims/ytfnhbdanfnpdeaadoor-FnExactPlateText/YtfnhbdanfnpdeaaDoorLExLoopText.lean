/-
  OUR OWN TEXT. The exact law of LoopText, walked.
-/
import Derived.Test.YtfnhbdanfnpdeaaDoorEqPts
import Derived.Test.YtfnhbdanfnpdeaaDoorOk
import Derived.Test.YtfnhbdanfnpdeaaDoorSOk
import Derived.Test.YtfnhbdanfnpdeaaDoorTextW
import Derived.Test.YtfnhbdanfnpdeaaDoorPlateM
namespace Go.Proofs.YtfnhbdanfnpdeaaDoor
open Go.RowKit Go.Sort

theorem okV_pt8 {pts : List P2} (h : okV pts = true) {i : Nat} (hi : i < pts.length) : ptB (ptAt pts i).1 (ptAt pts i).2 = true := (sgP_pt (((okV_iff pts).1 h).seg i hi)).1
/-- The text of a loop. -/
def ltB (l : List P2) : ByteArray := if okV l then txB l else ⟨#[]⟩
theorem loopText_any (a : Option Addr) (len cap : Nat) (l : List P2) (hlen : len ≤ 1048576) (w : World) (hT : Tab w) (hP : Pts w.heap.size w a len l) :
    Calls Tryd.prog 10 #[.slice a len cap] w fun e w' => e = .returned (.string (ltB l)) ∧ Below w.heap.size w w' := by
  have hO := ok_any a len cap l hlen w hP
  cases hv : okV l
  · have e1 : Hid (ltB l = ⟨#[]⟩) := by change _ = _; unfold ltB; rw [hv]; rfl
    rw [hv] at hO
    go_enter Tryd.func10, Tryd.ntmps10
    go_wp2_with fail
    refine hO.mono ?_
    rintro e w1 ⟨rfl, J⟩
    go_wp2_with fail
    go_ret
    exact ⟨ret_str e1.out.symm, J⟩
  · have e1 : Hid (ltB l = txB l) := by change _ = _; unfold ltB; rw [hv]; rfl
    have hok : ∀ i, i < len → ptB (ptAt l i).1 (ptAt l i).2 = true := fun i hi => okV_pt8 hv (by rw [hP.1]; exact hi)
    have h8 : len ≤ 8 := by have := (okV_pos hv).2; rw [hP.1] at this; exact this
    rw [hv] at hO
    go_enter Tryd.func10, Tryd.ntmps10
    go_wp2_with fail
    refine hO.mono ?_
    rintro e w1 ⟨rfl, J⟩
    go_wp2_with fail
    refine (ptsText_ok a len cap l (by omega) _ (hT.below J) ((hP.below J).grow J.size) hok).mono ?_
    rintro e w2 ⟨rfl, J2⟩
    go_wp2_with fail
    go_ret
    exact ⟨ret_str e1.out.symm, bw_trans J J2⟩
theorem sLoopText_any (a : Option Addr) (len cap : Nat) (l : List P2) (hlen : len ≤ 1048576) (w : World) (hP : Pts w.heap.size w a len l) :
    Calls Tryd.prog 8 #[.slice a len cap] w fun e w' => e = .returned (.string (ltB l)) ∧ Below w.heap.size w w' := by
  have hO := sOk_any a len cap l hlen w hP
  cases hv : okV l
  · have e1 : Hid (ltB l = ⟨#[]⟩) := by change _ = _; unfold ltB; rw [hv]; rfl
    rw [hv] at hO
    go_enter Tryd.func8, Tryd.ntmps8
    go_wp2_with fail
    refine hO.mono ?_
    rintro e w1 ⟨rfl, J⟩
    go_wp2_with fail
    go_ret
    exact ⟨ret_str e1.out.symm, J⟩
  · have e1 : Hid (ltB l = txB l) := by change _ = _; unfold ltB; rw [hv]; rfl
    have hok : ∀ i, i < len → ptB (ptAt l i).1 (ptAt l i).2 = true := fun i hi => okV_pt8 hv (by rw [hP.1]; exact hi)
    have h8 : len ≤ 8 := by have := (okV_pos hv).2; rw [hP.1] at this; exact this
    rw [hv] at hO
    go_enter Tryd.func8, Tryd.ntmps8
    go_wp2_with fail
    refine hO.mono ?_
    rintro e w1 ⟨rfl, J⟩
    go_wp2_with fail
    refine (sText_ok a len cap l (by omega) _ ((hP.below J).grow J.size) hok).mono ?_
    rintro e w2 ⟨rfl, J2⟩
    go_wp2_with fail
    go_ret
    exact ⟨ret_str e1.out.symm, bw_trans J J2⟩
set_option maxRecDepth 100000 in
set_option maxHeartbeats 2000000 in
theorem exLoopText_walk (W : World) (a : Option Addr) (len cap : Nat) (l : List P2) (hC : Came W a len cap l) (hT : Tab W) :
    Calls Tryd.prog 3 #[.slice a len cap] W fun e w' => e = .returned (.bool true) ∧ Below W.heap.size W w' := by
  have hm := hC.len.2
  have hl := hC.len.1
  have hP := hC.pts
  clear hC
  by_cases hlen : (1048576 : Int) < (len : Int)
  · have hz : ∀ w, Calls Tryd.prog 7 #[.slice a len cap, .int .i64 1048576] w fun e w' => e = .returned (.int .i64 (-1)) ∧ w' = w := fun w => by
      have := sz_any a len cap 1048576 (by omega) (by omega) hm w; rwa [if_pos hlen] at this
    go_enter Tryd.func3, Tryd.ntmps3
    go_wp2_with (go_at_call 7; refine (hz _).mono ?_; rintro e w' ⟨rfl, rfl⟩)
    go_ret
    exact ⟨rfl, (by repeat (first | exact bw_refl _ | assumption | apply bw_drewN | apply bw_drew | apply bw_alloc | refine bw_set ?_ (by simp) _))⟩
  · have hz : ∀ w, Calls Tryd.prog 7 #[.slice a len cap, .int .i64 1048576] w fun e w' => e = .returned (.int .i64 (1048576 - len)) ∧ w' = w := fun w => by
      have := sz_any a len cap 1048576 (by omega) (by omega) hm w; rwa [if_neg hlen] at this
    have hn : len ≤ 1048576 := by omega
    have hnn : ¬ (1048576 - (len : Int) < 0) := by omega
    go_enter Tryd.func3, Tryd.ntmps3
    go_wp2_with fail
    refine (hz _).mono ?_
    rintro e w' ⟨rfl, rfl⟩
    go_wp2_with fail
    refine (toPts_any a len cap l _ hP hn).mono ?_
    rintro e w1 ⟨g1, rfl, hg1, hb1, J1⟩
    go_wp2_with fail
    refine (sLoopText_any _ len len l hn _ (hb1.pts hl)).mono ?_
    rintro e w2 ⟨rfl, J2⟩
    have K2 := bw_trans J1 J2
    go_wp2_with fail
    refine (toPts_any a len cap l _ ((hP.below K2).grow K2.size) hn).mono ?_
    rintro e w3 ⟨g3, rfl, hg3, hb3, J3⟩
    have K3 := bw_trans K2 J3
    go_wp2_with fail
    refine (loopText_any _ len len l hn _ (hT.below K3) (hb3.pts hl)).mono ?_
    rintro e w4 ⟨rfl, J4⟩
    have K4 := bw_trans K3 J4
    go_wp2_with fail
    refine (toPts_any a len cap l _ ((hP.below K4).grow K4.size) hn).mono ?_
    rintro e w5 ⟨g5, rfl, hg5, hb5, J5⟩
    have K5 := bw_trans K4 J5
    go_wp2_with fail
    refine (eqPts_same _ _ len _ _ l _ (((hb3.below J4).below J5).pts hl) (hb5.pts hl) hn).mono ?_
    rintro e w6 ⟨rfl, J6⟩
    go_wp2_with fail
    go_ret
    exact ⟨rfl, bw_trans K5 J6⟩
end Go.Proofs.YtfnhbdanfnpdeaaDoor
