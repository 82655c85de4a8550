/-
  OUR OWN TEXT. Whether points are the same, by contract, at whatever points.
-/
import Derived.Test.YtfdnadiliedikaaDoorLuSame
namespace Go.Proofs.YtfdnadiliedikaaDoor
open Go.RowKit Go.Sort

theorem pts_ext {l m : List P2} (h : l.length = m.length) (hp : ∀ i, i < l.length → ptAt l i = ptAt m i) : l = m := by
  apply List.ext_getElem h
  intro i h1 h2
  have := hp i h1
  unfold ptAt at this
  rwa [List.getElem?_eq_getElem h1, List.getElem?_eq_getElem h2, Option.getD_some, Option.getD_some] at this
set_option maxRecDepth 100000 in
set_option maxHeartbeats 2000000 in
theorem luSame_any (a c : Option Addr) (n m cap cap' : Nat) (l q : List P2) (w : World) (hA : Pts w.heap.size w a n l) (hC : Pts w.heap.size w c m q) (hn : n ≤ 1048576) :
    Calls Tryd.prog 14 #[.slice a n cap, .slice c m cap'] w fun e w' => e = .returned (.bool (decide (l = q))) ∧ Below w.heap.size w w' := by
  by_cases hnm : n = m
  case neg =>
    have e1 : Hid (decide (l = q) = false) := by
      change _ = _
      apply decide_eq_false
      intro e; apply hnm; rw [← hA.1, ← hC.1, e]
    have h1 : ((n : Int) != (m : Int)) = true := by simp; omega
    rw [e1.out]
    go_enter Tryd.func14, Tryd.ntmps14
    go_wp2_with fail
    go_ret
    exact ⟨rfl, bw_refl _⟩
  case pos =>
  subst hnm
  have hl := hA.1
  have hq := hC.1
  go_enter Tryd.func14, Tryd.ntmps14
  go_wp2_with fail
  go_loopw [5] (fun i wr => ∃ k : Nat, k ≤ n ∧ i = .int .i64 k ∧ (∀ j, j < k → ptAt l j = ptAt q j) ∧ Below w.heap.size w wr) (fun i _ => n - (intOf i).toNat)
  case atStart => exact ⟨0, Nat.zero_le _, rfl, fun j hj => absurd hj (Nat.not_lt_zero _), bw_refl _⟩
  case round =>
    obtain ⟨k, hk, rfl, hall, hnx⟩ := hrel
    by_cases hlt : k < n
    · rcases hA.2 with h0 | ⟨b, off, rfl, hbl, hc⟩
      · omega
      rcases hC.2 with h0 | ⟨b', off', rfl, hbl', hc'⟩
      · omega
      have d0 := cell_regrown ((hnx.cell (p := ⟨b, off + k * 2, none⟩) hbl).trans (hc k hlt).1)
      have d1 := cell_regrown ((hnx.cell (p := ⟨b, off + k * 2 + 1, none⟩) hbl).trans (hc k hlt).2)
      have d2 := cell_regrown ((hnx.cell (p := ⟨b', off' + k * 2, none⟩) hbl').trans (hc' k hlt).1)
      have d3 := cell_regrown ((hnx.cell (p := ⟨b', off' + k * 2 + 1, none⟩) hbl').trans (hc' k hlt).2)
      have i0 : (0 : Int) ≤ (k : Int) := Int.natCast_nonneg _
      have i1 : (k : Int) < (n : Int) := by omega
      have HALL : Hid _ := hall
      clear hc hc' hall
      by_cases hx : (ptAt l k).1 = (ptAt q k).1
      case neg =>
        have e1 : Hid (decide (l = q) = false) := by
          change _ = _; apply decide_eq_false; intro e; exact hx (by rw [e])
        have b1 : ((ptAt l k).1 == (ptAt q k).1) = false := by simpa using hx
        have b2 : decide ((ptAt l k).1 = (ptAt q k).1) = false := by simpa using hx
        go_wp2_with fail
        refine wp_region_quiet_below (by kernel_rfl) (by kernel_rfl) ?_
        repeat (first | go_big_quiet_step (fail))
        refine wpQuiet_nil ?_
        intro _ hw'
        obtain ⟨⟨dq, osq⟩, hw''⟩ := hw'
        subst hw''
        have J := below_regrown wr dq osq
        generalize grow (redrawn wr dq) osq = w1 at J ⊢
        go_wp2_with fail
        go_ret
        exact ⟨by rw [e1.out]; rfl, bw_trans hnx J⟩
      case pos =>
      by_cases hy : (ptAt l k).2 = (ptAt q k).2
      case neg =>
        have e1 : Hid (decide (l = q) = false) := by
          change _ = _; apply decide_eq_false; intro e; exact hy (by rw [e])
        have b1 : ((ptAt l k).2 == (ptAt q k).2) = false := by simpa using hy
        have b2 : decide ((ptAt l k).2 = (ptAt q k).2) = false := by simpa using hy
        rw [← hx] at d2
        go_wp2_with fail
        refine wp_region_quiet_below (by kernel_rfl) (by kernel_rfl) ?_
        repeat (first | go_big_quiet_step (fail))
        refine wpQuiet_nil ?_
        intro _ hw'
        obtain ⟨⟨dq, osq⟩, hw''⟩ := hw'
        subst hw''
        have J := below_regrown wr dq osq
        generalize grow (redrawn wr dq) osq = w1 at J ⊢
        go_wp2_with fail
        go_ret
        exact ⟨by rw [e1.out]; rfl, bw_trans hnx J⟩
      case pos =>
      have hpt : ptAt l k = ptAt q k := Prod.ext hx hy
      have HPT : Hid (ptAt l k = ptAt q k) := hpt
      rw [← hpt] at d2 d3
      clear hx hy hpt
      go_wp2_with fail
      refine wp_region_quiet_below (by kernel_rfl) (by kernel_rfl) ?_
      repeat (first | go_big_quiet_step (fail))
      refine wpQuiet_nil ?_
      intro _ hw'
      obtain ⟨⟨dq, osq⟩, hw''⟩ := hw'
      subst hw''
      have J := below_regrown wr dq osq
      generalize grow (redrawn wr dq) osq = w1 at J ⊢
      go_wp2_with fail
      go_roundw
      case rel =>
        refine ⟨k + 1, by omega, by simp, fun j hj => ?_, bw_trans hnx J⟩
        rcases Nat.lt_or_ge j k with h | h
        · exact HALL.out j h
        · obtain rfl : j = k := by omega
          exact HPT.out
      case measure => simp [intOf]; omega
    · obtain rfl : k = n := by omega
      have e1 : Hid (decide (l = q) = true) := by
        change _ = _; apply decide_eq_true; exact pts_ext (by rw [hl, hq]) (by rw [hl]; exact hall)
      go_wp2_with fail
      go_ret
      exact ⟨by rw [e1.out]; rfl, hnx⟩
end Go.Proofs.YtfdnadiliedikaaDoor
