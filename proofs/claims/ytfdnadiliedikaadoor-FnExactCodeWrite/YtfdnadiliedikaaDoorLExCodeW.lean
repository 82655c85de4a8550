/-
  OUR OWN TEXT. The exact law of CodeWrite, walked. Condition: the library's table of powers of ten lies as its initialiser lays it.
-/
import Derived.Test.YtfdnadiliedikaaDoorWriteC
import Derived.Test.YtfdnadiliedikaaDoorSWriteC
import Derived.Test.YtfdnadiliedikaaDoorEqPts
namespace Go.Proofs.YtfdnadiliedikaaDoor
open Go.RowKit Go.Sort

set_option maxRecDepth 100000 in
set_option maxHeartbeats 2000000 in
theorem exCodeWrite_walk (W : World) (a : Option Addr) (len cap : Nat) (l : List P2) (hC : Came W a len cap l) (hT : Tab W) :
    Calls Tryd.prog 7 #[.slice a len cap] W fun e w' => e = .returned (.bool true) ∧ Below W.heap.size W w' := by
  have hm := hC.len.2
  have hl := hC.len.1
  have hP := hC.pts
  clear hC
  by_cases hlen : (1048576 : Int) < (len : Int)
  · have hz : ∀ w, Calls Tryd.prog 20 #[.slice a len cap, .int .i64 1048576] w fun e w' => e = .returned (.int .i64 (-1)) ∧ w' = w := fun w => by
      have := sz_any a len cap 1048576 (by omega) (by omega) hm w; rwa [if_pos hlen] at this
    go_enter Tryd.func7, Tryd.ntmps7
    go_wp2_with (go_at_call 20; refine (hz _).mono ?_; rintro e w' ⟨rfl, rfl⟩)
    go_ret
    exact ⟨rfl, (by repeat (first | exact bw_refl _ | assumption | apply bw_drewN | apply bw_drew | apply bw_alloc | refine bw_set ?_ (by simp) _))⟩
  · have hz : ∀ w, Calls Tryd.prog 20 #[.slice a len cap, .int .i64 1048576] w fun e w' => e = .returned (.int .i64 (1048576 - len)) ∧ w' = w := fun w => by
      have := sz_any a len cap 1048576 (by omega) (by omega) hm w; rwa [if_neg hlen] at this
    have hn : len ≤ 1048576 := by omega
    have hnn : ¬ (1048576 - (len : Int) < 0) := by omega
    go_enter Tryd.func7, Tryd.ntmps7
    go_wp2_with fail
    refine (hz _).mono ?_
    rintro e w' ⟨rfl, rfl⟩
    go_wp2_with fail
    refine (toPts_any a len cap l _ hP hn).mono ?_
    rintro e w1 ⟨g1, rfl, hg1, hb1, J1⟩
    go_wp2_with fail
    refine (sCodeWrite_any _ len len l _ hn (hb1.pts hl)).mono ?_
    rintro e w2 ⟨rfl, J2⟩
    have K2 := bw_trans J1 J2
    go_wp2_with fail
    refine (toPts_any a len cap l _ ((hP.below K2).grow K2.size) hn).mono ?_
    rintro e w3 ⟨g3, rfl, hg3, hb3, J3⟩
    have K3 := bw_trans K2 J3
    go_wp2_with fail
    refine (codeWrite_any _ len len l _ hn (Nat.le_refl _) (hb3.pts hl) (hT.below K3)).mono ?_
    rintro e w4 ⟨rfl, J4⟩
    have K4 := bw_trans K3 J4
    go_wp2_with fail
    refine (toPts_any a len cap l _ ((hP.below K4).grow K4.size) hn).mono ?_
    rintro e w5 ⟨g5, rfl, hg5, hb5, J5⟩
    have K5 := bw_trans K4 J5
    go_wp2_with fail
    refine (eqPts_same _ _ len _ _ l _ (((hb3.below J4).below J5).pts hl) (hb5.pts hl) hn).mono ?_
    rintro e w6 ⟨rfl, J6⟩
    go_wp2_with fail
    go_ret
    exact ⟨rfl, bw_trans K5 J6⟩
end Go.Proofs.YtfdnadiliedikaaDoor
