/-
  OUR OWN TEXT. The law FnTurnRound, walked: whatever bytes come in, it answers true and writes nothing that was there.
-/
import Derived.Test.YtempleochkohlaaDrawT
import Derived.Test.YtempleochkohlaaSTurn
import Derived.Test.YtempleochkohlaaLu
namespace Go.Proofs.Ytempleochkohlaa
open Go.RowKit Go.Sort

theorem turnV_bd (ax ay bx b_y cx cy : Int) : turnV ax ay bx b_y cx cy = -1 ∨ turnV ax ay bx b_y cx cy = 0 ∨ turnV ax ay bx b_y cx cy = 1 := by
  unfold turnV tn cmpI; split
  · split
    · exact .inl rfl
    · split
      · exact .inr (.inr rfl)
      · exact .inr (.inl rfl)
  · exact .inr (.inl rfl)
theorem turnV_round (ax ay bx b_y cx cy : Int) : turnV bx b_y cx cy ax ay = turnV ax ay bx b_y cx cy := by
  unfold turnV; rw [tn_round]; cases ptB ax ay <;> cases ptB bx b_y <;> cases ptB cx cy <;> rfl
theorem turnV_round2 (ax ay bx b_y cx cy : Int) : turnV cx cy ax ay bx b_y = turnV ax ay bx b_y cx cy := by rw [← turnV_round cx cy, turnV_round]
theorem turnV_back (ax ay bx b_y cx cy : Int) : turnV bx b_y ax ay cx cy = - turnV ax ay bx b_y cx cy := by
  unfold turnV; rw [tn_back]; cases ptB ax ay <;> cases ptB bx b_y <;> cases ptB cx cy <;> rfl
theorem turnV_same (ax ay cx cy : Int) : turnV ax ay ax ay cx cy = 0 := by unfold turnV; rw [tn_same]; split <;> rfl
theorem turnV_end (ax ay bx b_y : Int) : turnV ax ay bx b_y bx b_y = 0 := by unfold turnV; rw [tn_end]; split <;> rfl
theorem turnRound_long (w : World) (a0 : Option Addr) (len0 cap0 : Nat) (h : 1048576 < len0) :
    Calls Try.prog 3 #[.slice a0 len0 cap0] w fun e w' => e = .returned (.bool true) ∧ Below w.heap.size w w' := by
  go_enter Try.func3, Try.ntmps3
  go_wp2
  go_ret
  exact ⟨rfl, bw_refl _⟩
set_option maxHeartbeats 2000000 in
theorem turnRound_walk (w : World) (a0 : Option Addr) (len0 cap0 : Nat) (z0 : List Int) (r0 : IsRow .u8 w a0 len0 cap0 z0) :
    Calls Try.prog 3 #[.slice a0 len0 cap0] w fun e w' => e = .returned (.bool true) ∧ Below w.heap.size w w' := by
  by_cases hl : 1048576 < len0
  · exact turnRound_long w a0 len0 cap0 hl
  have hl0 : len0 ≤ 1048576 := by omega
  clear hl
  go_enter Try.func3, Try.ntmps3
  go_wp2_with fail
  refine (drawTurn_any w _ r0 (bw_refl _)).mono ?_
  rintro e w0 ⟨ax, ay, bx, b_y, cx, cy, rfl, _, b1⟩
  obtain ⟨W, hW, BW, S, T, U⟩ := boxes3 w0 (.cells #[.int .i64 ax, .int .i64 ay] 24) (.cells #[.int .i64 bx, .int .i64 b_y] 24) (.cells #[.int .i64 cx, .int .i64 cy] 24)
  replace BW := bw_trans b1 BW
  clear b1
  go_upto_region 4 with fail
  rw [← hW]
  clear hW
  have zS := blk_lt S
  obtain ⟨fS0, fS1⟩ := blk_2 S
  have zT := blk_lt T
  obtain ⟨fT0, fT1⟩ := blk_2 T
  have zU := blk_lt U
  obtain ⟨fU0, fU1⟩ := blk_2 U
  have r1 := turnV_round ax ay bx b_y cx cy
  have r2 := turnV_round2 ax ay bx b_y cx cy
  have r3 := turnV_back ax ay bx b_y cx cy
  rcases turnV_bd ax ay bx b_y cx cy with ht | ht | ht
  · rw [ht] at r1 r2 r3
    go_wp2_with fail
    refine (turn_any _ _ _ _ _ _ _).mono ?_
    rw [ht]
    rintro e w1 ⟨rfl, J⟩
    obtain ⟨hc, hf⟩ := bcell J
    go_wp2_with fail
    refine (sTurn_any _ _ _ _ _ _ _).mono ?_
    rw [ht]
    rintro e w1 ⟨rfl, J2⟩
    replace J := bw_trans J J2
    clear hc hf J2
    obtain ⟨hc, hf⟩ := bcell J
    go_wp2_with fail
    refine (turn_any _ _ _ _ _ _ _).mono ?_
    rw [r1]
    rintro e w1 ⟨rfl, J2⟩
    replace J := bw_trans J J2
    clear hc hf J2
    obtain ⟨hc, hf⟩ := bcell J
    go_wp2_with fail
    refine (turn_any _ _ _ _ _ _ _).mono ?_
    rw [r2]
    rintro e w1 ⟨rfl, J2⟩
    replace J := bw_trans J J2
    clear hc hf J2
    obtain ⟨hc, hf⟩ := bcell J
    go_wp2_with fail
    refine (turn_any _ _ _ _ _ _ _).mono ?_
    rw [r3]
    rintro e w1 ⟨rfl, J2⟩
    replace J := bw_trans J J2
    clear hc hf J2
    obtain ⟨hc, hf⟩ := bcell J
    go_wp2_with fail
    refine (turn_any _ _ _ _ _ _ _).mono ?_
    rw [turnV_same]
    rintro e w1 ⟨rfl, J2⟩
    replace J := bw_trans J J2
    clear hc hf J2
    obtain ⟨hc, hf⟩ := bcell J
    go_wp2_with fail
    refine (turn_any _ _ _ _ _ _ _).mono ?_
    rw [turnV_end]
    rintro e w1 ⟨rfl, J2⟩
    replace J := bw_trans J J2
    clear hc hf J2
    obtain ⟨hc, hf⟩ := bcell J
    go_wp2_with fail
    go_ret
    exact ⟨rfl, bw_trans BW J⟩
  · rw [ht] at r1 r2 r3
    go_wp2_with fail
    refine (turn_any _ _ _ _ _ _ _).mono ?_
    rw [ht]
    rintro e w1 ⟨rfl, J⟩
    obtain ⟨hc, hf⟩ := bcell J
    go_wp2_with fail
    refine (sTurn_any _ _ _ _ _ _ _).mono ?_
    rw [ht]
    rintro e w1 ⟨rfl, J2⟩
    replace J := bw_trans J J2
    clear hc hf J2
    obtain ⟨hc, hf⟩ := bcell J
    go_wp2_with fail
    refine (turn_any _ _ _ _ _ _ _).mono ?_
    rw [r1]
    rintro e w1 ⟨rfl, J2⟩
    replace J := bw_trans J J2
    clear hc hf J2
    obtain ⟨hc, hf⟩ := bcell J
    go_wp2_with fail
    refine (turn_any _ _ _ _ _ _ _).mono ?_
    rw [r2]
    rintro e w1 ⟨rfl, J2⟩
    replace J := bw_trans J J2
    clear hc hf J2
    obtain ⟨hc, hf⟩ := bcell J
    go_wp2_with fail
    refine (turn_any _ _ _ _ _ _ _).mono ?_
    rw [r3]
    rintro e w1 ⟨rfl, J2⟩
    replace J := bw_trans J J2
    clear hc hf J2
    obtain ⟨hc, hf⟩ := bcell J
    go_wp2_with fail
    refine (turn_any _ _ _ _ _ _ _).mono ?_
    rw [turnV_same]
    rintro e w1 ⟨rfl, J2⟩
    replace J := bw_trans J J2
    clear hc hf J2
    obtain ⟨hc, hf⟩ := bcell J
    go_wp2_with fail
    refine (turn_any _ _ _ _ _ _ _).mono ?_
    rw [turnV_end]
    rintro e w1 ⟨rfl, J2⟩
    replace J := bw_trans J J2
    clear hc hf J2
    obtain ⟨hc, hf⟩ := bcell J
    go_wp2_with fail
    go_ret
    exact ⟨rfl, bw_trans BW J⟩
  · rw [ht] at r1 r2 r3
    go_wp2_with fail
    refine (turn_any _ _ _ _ _ _ _).mono ?_
    rw [ht]
    rintro e w1 ⟨rfl, J⟩
    obtain ⟨hc, hf⟩ := bcell J
    go_wp2_with fail
    refine (sTurn_any _ _ _ _ _ _ _).mono ?_
    rw [ht]
    rintro e w1 ⟨rfl, J2⟩
    replace J := bw_trans J J2
    clear hc hf J2
    obtain ⟨hc, hf⟩ := bcell J
    go_wp2_with fail
    refine (turn_any _ _ _ _ _ _ _).mono ?_
    rw [r1]
    rintro e w1 ⟨rfl, J2⟩
    replace J := bw_trans J J2
    clear hc hf J2
    obtain ⟨hc, hf⟩ := bcell J
    go_wp2_with fail
    refine (turn_any _ _ _ _ _ _ _).mono ?_
    rw [r2]
    rintro e w1 ⟨rfl, J2⟩
    replace J := bw_trans J J2
    clear hc hf J2
    obtain ⟨hc, hf⟩ := bcell J
    go_wp2_with fail
    refine (turn_any _ _ _ _ _ _ _).mono ?_
    rw [r3]
    rintro e w1 ⟨rfl, J2⟩
    replace J := bw_trans J J2
    clear hc hf J2
    obtain ⟨hc, hf⟩ := bcell J
    go_wp2_with fail
    refine (turn_any _ _ _ _ _ _ _).mono ?_
    rw [turnV_same]
    rintro e w1 ⟨rfl, J2⟩
    replace J := bw_trans J J2
    clear hc hf J2
    obtain ⟨hc, hf⟩ := bcell J
    go_wp2_with fail
    refine (turn_any _ _ _ _ _ _ _).mono ?_
    rw [turnV_end]
    rintro e w1 ⟨rfl, J2⟩
    replace J := bw_trans J J2
    clear hc hf J2
    obtain ⟨hc, hf⟩ := bcell J
    go_wp2_with fail
    go_ret
    exact ⟨rfl, bw_trans BW J⟩
end Go.Proofs.Ytempleochkohlaa
