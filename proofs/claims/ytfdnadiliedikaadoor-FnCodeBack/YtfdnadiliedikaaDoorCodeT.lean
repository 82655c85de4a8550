/-
  OUR OWN TEXT. The program's paths and steps, by contract, at whatever points.
-/
import Derived.Test.YtfdnadiliedikaaDoorCodeM3
import Derived.Test.YtfdnadiliedikaaDoorMarkP
import Derived.Test.YtfdnadiliedikaaDoorTurn
import Derived.Test.YtfdnadiliedikaaDoorCells
namespace Go.Proofs.YtfdnadiliedikaaDoor
open Go.RowKit Go.Sort

set_option maxRecDepth 100000 in
set_option maxHeartbeats 4000000 in
theorem allPts_any (a : Option Addr) (np cp : Nat) (l : List P2) (w : World) (hP : Pts w.heap.size w a np l) (hn : np ≤ 1048576) :
    Calls Tryd.prog 70 #[.slice a np cp] w fun e W' => e = .returned (.bool (l.all okP)) ∧ Below w.heap.size w W' := by
  obtain ⟨hlen, hP⟩ := hP
  have HL : Hid (l.length = np) := hlen
  clear hlen
  go_enter Tryd.func70, Tryd.ntmps70
  go_wp2_with fail
  go_loopw [7] (fun i wr => ∃ k : Nat, k ≤ np ∧ i = .int .i64 k ∧ (∀ j, j < k → okP (ptAt l j) = true) ∧ Below w.heap.size w wr) (fun i _ => np - (intOf i).toNat)
  case atStart => exact ⟨0, Nat.zero_le _, rfl, fun j hj => absurd hj (Nat.not_lt_zero _), bw_refl _⟩
  case round =>
    obtain ⟨k, hk, rfl, hok, hnx⟩ := hrel
    have HOK : Hid (∀ j, j < k → okP (ptAt l j) = true) := hok
    clear hok
    by_cases hlt : k < np
    case neg =>
      obtain rfl : k = np := by omega
      have e1 : Hid (l.all okP = true) := List.all_eq_true.2 (all_at.2 (fun i hi => HOK.out i (by rw [← HL.out]; exact hi)))
      go_wp2_with fail
      go_ret
      exact ⟨by rw [e1.out]; rfl, hnx⟩
    case pos =>
      rcases hP with h0 | ⟨g, off, rfl, hg, hc⟩
      · omega
      have i3 : (0 : Int) ≤ (k : Int) := Int.natCast_nonneg _
      have i4 : (k : Int) < (np : Int) := by omega
      obtain ⟨d0, d1⟩ := hc k hlt
      have q0 := (hnx.cell (p := ⟨g, off + k * 2, none⟩) hg).trans d0
      have q1 := (hnx.cell (p := ⟨g, off + k * 2 + 1, none⟩) hg).trans d1
      have h1 := ptOk_any (ptAt l k).1 (ptAt l k).2
      clear hc d0 d1
      cases hp : okP (ptAt l k)
      · have e1 : Hid (l.all okP = false) := by
          change _ = _
          rw [Bool.eq_false_iff]
          intro h
          rw [all_at.1 (List.all_eq_true.1 h) k (by rw [HL.out]; exact hlt)] at hp
          cases hp
        unfold okP at hp
        rw [hp] at h1
        go_wp2_with fail
        refine (h1 _).mono ?_
        rintro e w1 ⟨rfl, J⟩
        go_wp2_with fail
        go_ret
        exact ⟨by rw [e1.out]; rfl, bw_trans hnx (bw_trans (by repeat (first | exact bw_refl _ | assumption | apply bw_drewN | apply bw_drew | apply bw_alloc | refine bw_set ?_ (by simp) _)) J)⟩
      · have HQ : Hid (okP (ptAt l k) = true) := hp
        unfold okP at hp
        rw [hp] at h1
        go_wp2_with fail
        refine (h1 _).mono ?_
        rintro e w1 ⟨rfl, J⟩
        go_wp2_with fail
        go_roundw
        case rel => exact ⟨k + 1, by omega, by simp, fun j hj => by rcases Nat.lt_or_ge j k with h | h; exact HOK.out j h; obtain rfl : j = k := (by omega); exact HQ.out, bw_trans hnx (bw_trans (by repeat (first | exact bw_refl _ | assumption | apply bw_drewN | apply bw_drew | apply bw_alloc | refine bw_set ?_ (by simp) _)) J)⟩
        case measure => simp [intOf]; omega
set_option maxHeartbeats 4000000 in
theorem square_ok (p q : P2) (w : World) (hp : okP p = true) (hq : okP q = true) :
    Calls Tryd.prog 53 #[.agg #[.int .i64 p.1, .int .i64 p.2], .agg #[.int .i64 q.1, .int .i64 q.2]] w fun e W' => e = .returned (.int .i64 (dt p.1 p.2 q.1 q.2 q.1 q.2)) ∧ Below w.heap.size w W' := by
  have hc := fun V => along_any p.1 p.2 q.1 q.2 q.1 q.2 V hp hq hq
  generalize dt p.1 p.2 q.1 q.2 q.1 q.2 = z at *
  go_enter Tryd.func53, Tryd.ntmps53
  go_wp2_with fail
  refine (hc _).mono ?_
  rintro e v ⟨rfl, J⟩
  go_wp2_with fail
  go_ret
  exact ⟨rfl, bw_trans (by repeat (first | exact bw_refl _ | assumption | apply bw_drewN | apply bw_drew | apply bw_alloc | refine bw_set ?_ (by simp) _)) J⟩
set_option maxHeartbeats 4000000 in
theorem step_any (p q : P2) (w : World) :
    Calls Tryd.prog 41 #[.agg #[.int .i64 p.1, .int .i64 p.2], .agg #[.int .i64 q.1, .int .i64 q.2]] w fun e W' => e = .returned (.agg #[.int .i64 (cmpI q.1 p.1), .int .i64 (cmpI q.2 p.2)]) ∧ Below w.heap.size w W' := by
  obtain ⟨W, hW, H, SB, RB, QB⟩ := boxes3 w (.cells #[.int .i64 p.1, .int .i64 p.2] 42) (.cells #[.int .i64 q.1, .int .i64 q.2] 42) (.cells #[.int .i64 0, .int .i64 0] 42)
  have L1 : Hid _ := fun w => cmpInt_any q.1 p.1 w
  have L2 : Hid _ := fun w => cmpInt_any q.2 p.2 w
  go_enter Tryd.func41, Tryd.ntmps41
  go_upto_region 1 with fail
  rw [← hW]
  have zr := blk_lt QB
  replace H := H.drew
  have hS0 : (fun w' : World => w'.cell? ⟨w.heap.size, 0, none⟩ = some (.int .i64 p.1) ∧ w'.cell? ⟨w.heap.size, 1, none⟩ = some (.int .i64 p.2) ∧ w'.cell? ⟨w.heap.size + 1, 0, none⟩ = some (.int .i64 q.1) ∧ w'.cell? ⟨w.heap.size + 1, 1, none⟩ = some (.int .i64 q.2)) W := by
    obtain ⟨a0, a1⟩ := blk_2 SB
    obtain ⟨a2, a3⟩ := blk_2 RB
    exact ⟨a0, a1, a2, a3⟩
  clear hW SB RB
  replace QB : W.drew.heap[w.heap.size + 2]? = _ := QB
  go_region_held3 (fun w' : World => w'.cell? ⟨w.heap.size, 0, none⟩ = some (.int .i64 p.1) ∧ w'.cell? ⟨w.heap.size, 1, none⟩ = some (.int .i64 p.2) ∧ w'.cell? ⟨w.heap.size + 1, 0, none⟩ = some (.int .i64 q.1) ∧ w'.cell? ⟨w.heap.size + 1, 1, none⟩ = some (.int .i64 q.2)) (first | with_reducible exact cB4 K (by assumption) | exact hS0 | exact cS4 (by assumption) (by dsimp only; omega) (by dsimp only; omega) (by dsimp only; omega) (by dsimp only; omega)) (first | (go_at_call 67; (with_reducible refine (L1.out _).mono ?_); clear L1; rintro e v1 ⟨rfl, K⟩; replace H := bw_trans H K; replace QB := keep K QB; obtain ⟨q0, q1, q2, q3⟩ := blk2 QB) | (go_at_call 67; (with_reducible refine (L2.out _).mono ?_); clear L2; rintro e v2 ⟨rfl, K⟩; replace H := bw_trans H K; replace QB := keep K QB; obtain ⟨q0, q1, q2, q3⟩ := blk2 QB))
  have HB : Hid _ := H
  have zz := blk_lt QB
  have r0 : ((v2.setCell ⟨w.heap.size + 1 + 1, 0, none⟩ (.int .i64 (cmpI q.1 p.1))).setCell ⟨w.heap.size + 1 + 1, 1, none⟩ (.int .i64 (cmpI q.2 p.2))).cell? ⟨w.heap.size + 1 + 1, 0, none⟩ = some (.int .i64 (cmpI q.1 p.1)) := by
    rw [row_cell (setCell_row (setCell_row QB _) _)]; rfl
  have r1 : ((v2.setCell ⟨w.heap.size + 1 + 1, 0, none⟩ (.int .i64 (cmpI q.1 p.1))).setCell ⟨w.heap.size + 1 + 1, 1, none⟩ (.int .i64 (cmpI q.2 p.2))).cell? ⟨w.heap.size + 1 + 1, 1, none⟩ = some (.int .i64 (cmpI q.2 p.2)) := by
    rw [row_cell (setCell_row (setCell_row QB _) _)]; rfl
  clear H QB
  go_wp2_with fail
  exact bodyPost_ret (v := .agg #[.int .i64 (cmpI q.1 p.1), .int .i64 (cmpI q.2 p.2)]) (by simp [results, Tryd.results41, go_sem, r0, r1]) rfl ⟨rfl, bw_set (bw_set HB.out (by dsimp only; omega) _) (by dsimp only; omega) _⟩
/-- As many points as a path may have, all of the grid. -/
def enV (l : List P2) : Bool := decide (1 ≤ l.length ∧ l.length ≤ 400) && l.all okP
theorem enV_len {l : List P2} (h : ¬ (1 ≤ l.length ∧ l.length ≤ 400)) : enV l = false := by unfold enV; rw [decide_eq_false h]; rfl
theorem enV_in {l : List P2} (h : 1 ≤ l.length ∧ l.length ≤ 400) : enV l = l.all okP := by unfold enV; rw [decide_eq_true h]; rfl
theorem enV_iff {l : List P2} : enV l = true ↔ (1 ≤ l.length ∧ l.length ≤ 400) ∧ ∀ i, i < l.length → okP (ptAt l i) = true := by
  unfold enV
  rw [Bool.and_eq_true, decide_eq_true_eq, List.all_eq_true, all_at]
theorem pathP_en (l : List P2) : pathP l = (enV l && chL l) := rfl
set_option maxRecDepth 100000 in
set_option maxHeartbeats 4000000 in
theorem enough_any (a : Option Addr) (np cp : Nat) (l : List P2) (w : World) (hP : Pts w.heap.size w a np l) (hn : np ≤ 1048576) :
    Calls Tryd.prog 52 #[.slice a np cp] w fun e W' => e = .returned (.bool (enV l)) ∧ Below w.heap.size w W' := by
  have h1 := allPts_any a np cp l w hP hn
  have hl := hP.1
  by_cases c1 : np < 1
  · have e1 : Hid (enV l = false) := enV_len (by omega)
    have i2 : ¬ (1 ≤ (np : Int)) := by omega
    go_enter Tryd.func52, Tryd.ntmps52
    go_wp2_with fail
    go_ret
    exact ⟨by rw [e1.out]; rfl, bw_refl _⟩
  by_cases c2 : 400 < np
  · have e1 : Hid (enV l = false) := enV_len (by omega)
    have i2 : (1 ≤ (np : Int)) := by omega
    have i3 : ¬ ((np : Int) ≤ 400) := by omega
    go_enter Tryd.func52, Tryd.ntmps52
    go_wp2_with fail
    go_ret
    exact ⟨by rw [e1.out]; rfl, bw_refl _⟩
  have e1 : Hid (enV l = l.all okP) := enV_in (by omega)
  have i2 : (1 ≤ (np : Int)) := by omega
  have i3 : ((np : Int) ≤ 400) := by omega
  go_enter Tryd.func52, Tryd.ntmps52
  go_wp2_with fail
  refine h1.mono ?_
  rintro e w1 ⟨rfl, J⟩
  go_wp2_with fail
  go_ret
  exact ⟨by rw [e1.out]; rfl, J⟩
set_option maxRecDepth 100000 in
set_option maxHeartbeats 4000000 in
theorem isPath_any (a : Option Addr) (np cp : Nat) (l : List P2) (w : World) (hcp : np ≤ cp) (hP : Pts w.heap.size w a np l) (hn : np ≤ 1048576) :
    Calls Tryd.prog 40 #[.slice a np cp] w fun e W' => e = .returned (.bool (pathP l)) ∧ Below w.heap.size w W' := by
  have h1 := enough_any a np cp l w hP hn
  cases hen : enV l
  · have e1 : Hid (pathP l = false) := by change _ = _; rw [pathP_en, hen]; rfl
    rw [hen] at h1
    go_enter Tryd.func40, Tryd.ntmps40
    go_wp2_with fail
    refine h1.mono ?_
    rintro e w1 ⟨rfl, J⟩
    go_wp2_with fail
    go_ret
    exact ⟨by rw [e1.out]; rfl, J⟩
  rw [hen] at h1
  obtain ⟨⟨hl1, hl2⟩, hok⟩ := enV_iff.1 hen
  obtain ⟨hlen, hP⟩ := hP
  have HL : Hid (l.length = np) := hlen
  have HEN : Hid (enV l = true) := hen
  have HOK : Hid (∀ i, i < np → okP (ptAt l i) = true) := fun i hi => hok i (by rw [hlen]; exact hi)
  rw [hlen] at hl1 hl2
  rcases hP with h0 | ⟨g, off, rfl, hg, hc⟩
  · omega
  have HC : Hid (∀ j, j < np → w.cell? ⟨g, off + j * 2, none⟩ = some (.int .i64 (ptAt l j).1) ∧ w.cell? ⟨g, off + j * 2 + 1, none⟩ = some (.int .i64 (ptAt l j).2)) := hc
  clear hlen hc hok hen
  obtain ⟨m, rfl⟩ : ∃ m, np = m + 1 := ⟨np - 1, by omega⟩
  obtain ⟨c, rfl⟩ : ∃ c, cp = c + 1 := ⟨cp - 1, by omega⟩
  have j1 : (1 : Int) ≤ ((m + 1 : Nat) : Int) := by omega
  have j2 : ((m + 1 : Nat) : Int) ≤ ((c + 1 : Nat) : Int) := by omega
  have E : ∀ (h : ∀ j, j < m → besP (ptAt l j) (ptAt l (j + 1)) = true), Hid (pathP l = true) := fun h => by
    change _ = _
    rw [pathP_en, HEN.out, (chL_iff l).2 (fun i hi => h i (by rw [HL.out] at hi; omega))]; rfl
  rcases Nat.eq_zero_or_pos m with hm | hm
  · subst hm
    have e1 := E (fun j hj => absurd hj (Nat.not_lt_zero _))
    clear E
    go_enter Tryd.func40, Tryd.ntmps40
    go_wp2_with fail
    refine h1.mono ?_
    rintro e w1 ⟨rfl, J⟩
    go_wp2_with fail
    all_goals
      refine wp_loop_rounds 2 ?_
      rw [rounds_succ]
      go_wp2_with fail
      go_ret
      exact ⟨by rw [e1.out]; rfl, J⟩
  · have hc0 : (c = 0) = False := by simp; omega
    have k1 : IntKind.i64.wrap ((m : Int)) = (m : Int) := wrap_small (by omega) (by omega)
    go_enter Tryd.func40, Tryd.ntmps40
    go_wp2_with fail
    refine h1.mono ?_
    rintro e w1 ⟨rfl, J⟩
    go_wp2_with fail
    go_loopw [11] (fun i wr => ∃ k : Nat, k ≤ m ∧ i = .int .i64 k ∧ (∀ j, j < k → besP (ptAt l j) (ptAt l (j + 1)) = true) ∧ Below w.heap.size w wr) (fun i _ => m - (intOf i).toNat)
    case atStart => exact ⟨0, Nat.zero_le _, rfl, fun j hj => absurd hj (Nat.not_lt_zero _), J⟩
    case round =>
      obtain ⟨k, hk, rfl, hst, hnx⟩ := hrel
      have HST : Hid (∀ j, j < k → besP (ptAt l j) (ptAt l (j + 1)) = true) := hst
      clear hst
      by_cases hlt : k < m
      case neg =>
        obtain rfl : k = m := by omega
        have e1 := E HST.out
        clear E
        go_wp2_with fail
        go_ret
        exact ⟨by rw [e1.out]; rfl, hnx⟩
      case pos =>
        have i3 : (0 : Int) ≤ (k : Int) := Int.natCast_nonneg _
        have i4 : (k : Int) < (m : Int) := by omega
        have i5 : (k : Int) < (m : Int) + 1 := by omega
        obtain ⟨d0, d1⟩ := HC.out (k + 1) (by omega)
        have c0 := (hnx.cell (p := ⟨g, off + (k + 1) * 2, none⟩) hg).trans d0
        have c1' := (hnx.cell (p := ⟨g, off + (k + 1) * 2 + 1, none⟩) hg).trans d1
        rw [show off + (k + 1) * 2 = off + 2 + k * 2 by omega] at c0 c1'
        obtain ⟨d2, d3⟩ := HC.out k (by omega)
        obtain ⟨V, hV, BV, T⟩ : ∃ V, V = wr.alloc (.cells #[.int .i64 (ptAt l (k+1)).1, .int .i64 (ptAt l (k+1)).2] 42) ∧ Below wr.heap.size wr V ∧ V.heap[wr.heap.size]? = some (.cells #[.int .i64 (ptAt l (k+1)).1, .int .i64 (ptAt l (k+1)).2] 42) := ⟨_, rfl, (by repeat (first | exact bw_refl _ | assumption | apply bw_drewN | apply bw_drew | apply bw_alloc | refine bw_set ?_ (by simp) _)), heap_new _ _⟩
        have hnV := bw_trans hnx BV
        have q0 := cell_regrown ((hnV.cell (p := ⟨g, off + k * 2, none⟩) hg).trans d2)
        have q1 := cell_regrown ((hnV.cell (p := ⟨g, off + k * 2 + 1, none⟩) hg).trans d3)
        have hS := fun V => square_ok (ptAt l k) (ptAt l (k + 1)) V (HOK.out k (by omega)) (HOK.out (k + 1) (by omega))
        have hbe : besP (ptAt l k) (ptAt l (k + 1)) = decide (dt (ptAt l k).1 (ptAt l k).2 (ptAt l (k + 1)).1 (ptAt l (k + 1)).2 (ptAt l (k + 1)).1 (ptAt l (k + 1)).2 = 1) := rfl
        have X2' : ∃ z, (besP (ptAt l k) (ptAt l (k + 1)) = decide (z = 1)) ∧ Hid (∀ V, Calls Tryd.prog 53 #[.agg #[.int .i64 (ptAt l k).1, .int .i64 (ptAt l k).2], .agg #[.int .i64 (ptAt l (k+1)).1, .int .i64 (ptAt l (k+1)).2]] V fun e w' => e = .returned (.int .i64 z) ∧ Below V.heap.size V w') := ⟨_, hbe, hS⟩
        clear d0 d1 d2 d3 hS hbe
        obtain ⟨z, hz, X2⟩ := X2'
        obtain ⟨t0, t1⟩ := reg_2 T
        go_upto_region 6 with fail
        rw [← hV]
        clear hV c0 c1'
        by_cases hd : z = 1
        case neg =>
          have e1 : Hid (pathP l = false) := pathP_step (i := k) (by rw [HL.out]; omega) (by rw [hz]; exact decide_eq_false hd)
          have z1 : (z != 1) = true := by simpa using hd
          have z2 : (z == 1) = false := by simpa using hd
          clear hz hd E
          refine wp_region_quiet_below (by kernel_rfl) (by kernel_rfl) ?_
          repeat (first | go_big_quiet_step (first | (go_at_call 53; with_reducible exact Calls.regrown_of (X2.out _))))
          refine wpQuiet_nil ?_
          intro _ hw'
          obtain ⟨⟨dq, osq⟩, hw''⟩ := hw'
          subst hw''
          have J := below_regrown V dq osq
          generalize grow (redrawn V dq) osq = v2 at J ⊢
          go_wp2_with fail
          go_ret
          exact ⟨by rw [e1.out]; rfl, bw_trans hnV J⟩
        case pos =>
          have HS1 : Hid (besP (ptAt l k) (ptAt l (k + 1)) = true) := by change _ = _; rw [hz]; exact decide_eq_true hd
          subst hd
          clear hz E
          refine wp_region_quiet_below (by kernel_rfl) (by kernel_rfl) ?_
          repeat (first | go_big_quiet_step (first | (go_at_call 53; with_reducible exact Calls.regrown_of (X2.out _))))
          refine wpQuiet_nil ?_
          intro _ hw'
          obtain ⟨⟨dq, osq⟩, hw''⟩ := hw'
          subst hw''
          have J := below_regrown V dq osq
          generalize grow (redrawn V dq) osq = v2 at J ⊢
          go_wp2_with fail
          go_roundw
          case rel => exact ⟨k + 1, by omega, by simp, fun j hj => by rcases Nat.lt_or_ge j k with h | h; exact HST.out j h; obtain rfl : j = k := (by omega); exact HS1.out, bw_trans hnV J⟩
          case measure => simp [intOf]; omega
end Go.Proofs.YtfdnadiliedikaaDoor
