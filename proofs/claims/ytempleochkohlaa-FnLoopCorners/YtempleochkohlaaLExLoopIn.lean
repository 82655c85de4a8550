/-
  OUR OWN TEXT. The exact law of LoopIn, walked.
-/
import Derived.Test.YtempleochkohlaaEqPts
import Derived.Test.YtempleochkohlaaIn
import Derived.Test.YtempleochkohlaaSIn
namespace Go.Proofs.Ytempleochkohlaa
open Go.RowKit Go.Sort

theorem in_xy (a : Option Addr) (len cap : Nat) (pts : List P2) (x y : Int) (hlen : len ≤ 1048576) (w : World) (hP : Pts w.heap.size w a len pts) :
    Calls Try.prog 22 #[.slice a len cap, .agg #[.int .i64 x, .int .i64 y]] w fun e W' => e = .returned (.int .i64 (inV pts (x, y))) ∧ Below w.heap.size w W' := in_any' a len cap pts (x, y) hlen w hP
theorem sIn_xy (a : Option Addr) (len cap : Nat) (pts : List P2) (x y : Int) (hlen : len ≤ 1048576) (w : World) (hP : Pts w.heap.size w a len pts) :
    Calls Try.prog 23 #[.slice a len cap, .agg #[.int .i64 x, .int .i64 y]] w fun e W' => e = .returned (.int .i64 (inV pts (x, y))) ∧ Below w.heap.size w W' := sIn_any a len cap pts (x, y) hlen w hP
set_option maxRecDepth 100000 in
set_option maxHeartbeats 2000000 in
theorem exLoopIn_walk (W : World) (a : Option Addr) (len cap : Nat) (l : List P2) (hC : Came W a len cap l) (x y : Int) (_ : (Lit.int .i64 x).wf = true) (_ : (Lit.int .i64 y).wf = true) :
    Calls Try.prog 11 #[.slice a len cap, .agg #[.int .i64 x, .int .i64 y]] W fun e w' => e = .returned (.bool true) ∧ Below W.heap.size W w' := by
  have hm := hC.len.2
  have hl := hC.len.1
  have hP := hC.pts
  clear hC
  by_cases hlen : (1048576 : Int) < (len : Int)
  · have hz : ∀ w, Calls Try.prog 34 #[.slice a len cap, .int .i64 1048576] w fun e w' => e = .returned (.int .i64 (-1)) ∧ w' = w := fun w => by
      have := sz_any a len cap 1048576 (by omega) (by omega) hm w; rwa [if_pos hlen] at this
    go_enter Try.func11, Try.ntmps11
    go_wp2_with (go_at_call 34; refine (hz _).mono ?_; rintro e w' ⟨rfl, rfl⟩)
    go_ret
    exact ⟨rfl, (by repeat (first | exact bw_refl _ | assumption | apply bw_drewN | apply bw_drew | apply bw_alloc | refine bw_set ?_ (by simp) _))⟩
  · have hz : ∀ w, Calls Try.prog 34 #[.slice a len cap, .int .i64 1048576] w fun e w' => e = .returned (.int .i64 (1048576 - len)) ∧ w' = w := fun w => by
      have := sz_any a len cap 1048576 (by omega) (by omega) hm w; rwa [if_neg hlen] at this
    have hn : len ≤ 1048576 := by omega
    have hnn : ¬ (1048576 - (len : Int) < 0) := by omega
    obtain ⟨W1, hW1⟩ : ∃ W1, W.alloc (.cells #[.int .i64 x, .int .i64 y] 49) = W1 := ⟨_, rfl⟩
    have QP : Lies W.heap.size #[.int .i64 x, .int .i64 y] 49 W1 := hW1 ▸ Lies.new W _ _
    have BW : Below W.heap.size W W1 := hW1 ▸ (by repeat (first | exact bw_refl _ | assumption | apply bw_drewN | apply bw_drew | apply bw_alloc | refine bw_set ?_ (by simp) _))
    have hP1 : Pts W1.heap.size W1 a len l := (hP.below BW).grow BW.size
    have hP1d : Pts W1.drew.heap.size W1.drew a len l := hP1
    obtain ⟨p0, p1⟩ := blk_2 QP
    go_enter Try.func11, Try.ntmps11
    go_wp2_with (go_at_call 34; refine (hz _).mono ?_; rintro e w' ⟨rfl, rfl⟩)
    try rw [hW1]
    go_region_held3 (fun w' => w'.cell? ⟨W.heap.size, 0, none⟩ = some (.int .i64 x) ∧ w'.cell? ⟨W.heap.size, 1, none⟩ = some (.int .i64 y))
      (first | go_keep | exact blk_2 (((QP.drew.below J1).below J2).below J3) | exact blk_2 ((QP.drew.below J1).below J2) | exact blk_2 (QP.drew.below J1))
      (first | (go_at_call 35; refine (toPts_any a len cap l _ hP1d hn).mono ?_; rintro e w1 ⟨g, rfl, hg, hb, J1⟩) | (go_at_call 36; refine (toPt_any _ _ _).mono ?_; rintro e w2 ⟨rfl, J2⟩) | (go_at_call 23; refine (sIn_xy _ len len l x y hn _ ((hb.below J2).pts hl)).mono ?_; rintro e w3 ⟨rfl, J3⟩))
    have K3 : Below W.heap.size W w3 := bw_trans (bw_trans (bw_trans BW.drew J1) J2) J3
    have QP3 := ((QP.drew.below J1).below J2).below J3
    clear p0 p1
    go_wp2_with fail
    refine (toPts_any a len cap l _ ((hP.below K3).grow K3.size) hn).mono ?_
    rintro e w4 ⟨g4, rfl, hg4, hb4, J4⟩
    have K4 := bw_trans K3 J4
    obtain ⟨p0, p1⟩ := blk_2 (QP3.below J4)
    go_wp2_with fail
    refine (toPt_any _ _ _).mono ?_
    rintro e w5 ⟨rfl, J5⟩
    have K5 := bw_trans K4 J5
    go_wp2_with fail
    refine (in_xy _ len len l x y hn _ ((hb4.below J5).pts hl)).mono ?_
    rintro e w6 ⟨rfl, J6⟩
    have K6 := bw_trans K5 J6
    go_wp2_with fail
    refine (toPts_any a len cap l _ ((hP.below K6).grow K6.size) hn).mono ?_
    rintro e w7 ⟨g7, rfl, hg7, hb7, J7⟩
    have K7 := bw_trans K6 J7
    go_wp2_with fail
    refine (eqPts_same _ _ len _ _ l _ ((((hb4.below J5).below J6).below J7).pts hl) (hb7.pts hl) hn).mono ?_
    rintro e w8 ⟨rfl, J8⟩
    go_wp2_with fail
    go_ret
    exact ⟨rfl, bw_trans K7 J8⟩
end Go.Proofs.Ytempleochkohlaa
