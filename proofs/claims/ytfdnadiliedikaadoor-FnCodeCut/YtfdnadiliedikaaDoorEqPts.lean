/-
  OUR OWN TEXT. Points that are the same, held against each other, by contract; the exact law of LoopOk, walked.
-/
import Derived.Test.YtfdnadiliedikaaDoorToPts
namespace Go.Proofs.YtfdnadiliedikaaDoor
open Go.RowKit Go.Sort

theorem eqPt_same (x y : Int) (w : World) : Calls Tryd.prog 50 #[.agg #[.int .i64 x, .int .i64 y], .agg #[.int .i64 x, .int .i64 y]] w fun e w' => e = .returned (.bool true) ∧ Below w.heap.size w w' := by
  go_enter Tryd.func50, Tryd.ntmps50
  go_wp2
  go_ret
  exact ⟨rfl, (by repeat (first | exact bw_refl _ | assumption | apply bw_drewN | apply bw_drew | apply bw_alloc | refine bw_set ?_ (by simp) _))⟩
set_option maxRecDepth 100000 in
set_option maxHeartbeats 1000000 in
theorem eqPts_same (a c : Option Addr) (len cap cap' : Nat) (l : List P2) (w : World) (hA : Pts w.heap.size w a len l) (hC : Pts w.heap.size w c len l) (hlen : len ≤ 1048576) :
    Calls Tryd.prog 22 #[.slice a len cap, .slice c len cap'] w fun e w' => e = .returned (.bool true) ∧ Below w.heap.size w w' := by
  go_enter Tryd.func22, Tryd.ntmps22
  go_wp2
  go_loopw [5] (fun i wr => ∃ k : Nat, k ≤ len ∧ i = .int .i64 k ∧ Below w.heap.size w wr) (fun i _ => len - (intOf i).toNat)
  case atStart => exact ⟨0, Nat.zero_le _, rfl, bw_refl _⟩
  case round =>
    obtain ⟨k, hk, rfl, hnx⟩ := hrel
    by_cases hlt : k < len
    · rcases hA.2 with h0 | ⟨b, off, rfl, hbl, hc⟩
      · omega
      rcases hC.2 with h0 | ⟨b', off', rfl, hbl', hc'⟩
      · omega
      have d0 := cell_regrown ((hnx.cell (p := ⟨b, off + k * 2, none⟩) hbl).trans (hc k hlt).1)
      have d1 := cell_regrown ((hnx.cell (p := ⟨b, off + k * 2 + 1, none⟩) hbl).trans (hc k hlt).2)
      have d2 := cell_regrown ((hnx.cell (p := ⟨b', off' + k * 2, none⟩) hbl').trans (hc' k hlt).1)
      have d3 := cell_regrown ((hnx.cell (p := ⟨b', off' + k * 2 + 1, none⟩) hbl').trans (hc' k hlt).2)
      have i0 : (0 : Int) ≤ (k : Int) := Int.natCast_nonneg _
      have i1 : (k : Int) < (len : Int) := by omega
      clear hc hc'
      go_wp2_with fail
      refine wp_region_quiet_below (by kernel_rfl) (by kernel_rfl) ?_
      repeat (first | go_big_quiet_step (first | (go_at_call 50; with_reducible exact Calls.regrown_of (eqPt_same _ _ _))))
      refine wpQuiet_nil ?_
      intro _ hw'
      obtain ⟨⟨dq, osq⟩, hw''⟩ := hw'
      subst hw''
      have J := below_regrown wr dq osq
      generalize grow (redrawn wr dq) osq = w1 at J ⊢
      go_wp2_with fail
      go_roundw
      case rel => exact ⟨k + 1, by omega, by simp, bw_trans hnx J⟩
      case measure => simp [intOf]; omega
    · obtain rfl : k = len := by omega
      go_wp2
      go_ret
      exact ⟨rfl, hnx⟩
end Go.Proofs.YtfdnadiliedikaaDoor
