/-
  OUR OWN TEXT. Whether points are a path, and whether points are among others, as the laws' own helpers tell, by contract.
-/
import Derived.Test.YtmoikmpbcdkidaaCodeM3
import Derived.Test.YtmoikmpbcdkidaaLuL
import Derived.Test.YtmoikmpbcdkidaaTurn
namespace Go.Proofs.Ytmoikmpbcdkidaa
open Go.RowKit Go.Sort

set_option maxHeartbeats 400000 in
theorem luSq_one (p q : P2) (w : World) (hp : okP p = true) (hq : okP q = true) :
    Calls Try.prog 42 #[.agg #[.int .i64 p.1, .int .i64 p.2], .agg #[.int .i64 q.1, .int .i64 q.2]] w fun e w' => e = .returned (.int .i64 (dt p.1 p.2 q.1 q.2 q.1 q.2)) ∧ Below w.heap.size w w' := by
  obtain ⟨px, py⟩ := p
  obtain ⟨qx, qy⟩ := q
  have hp := (ptB_iff _ _).1 hp
  have hq := (ptB_iff _ _).1 hq
  simp only at hp hq
  have h1 := prod_bd (x := px - qx) (y := px - qx) (by omega) (by omega) (by omega) (by omega)
  have h2 := prod_bd (x := py - qy) (y := py - qy) (by omega) (by omega) (by omega) (by omega)
  have h3 := prod_bd (x := qx - px) (y := qx - px) (by omega) (by omega) (by omega) (by omega)
  have h4 := prod_bd (x := qy - py) (y := qy - py) (by omega) (by omega) (by omega) (by omega)
  have e1 : Hid (dt px py qx qy qx qy = (px - qx) * (px - qx) + (py - qy) * (py - qy)) := by change _ = _; unfold dt; grind
  go_enter Try.func42, Try.ntmps42
  go_wp2_with fail
  go_ret
  exact ⟨by rw [e1.out]; rfl, (by repeat (first | exact bw_refl _ | assumption | apply bw_drewN | apply bw_drew | apply bw_alloc | refine bw_set ?_ (by simp) _))⟩
set_option maxRecDepth 100000 in
set_option maxHeartbeats 4000000 in
theorem luPath_ok (a : Option Addr) (np cp : Nat) (l : List P2) (w : World) (hP : Pts w.heap.size w a np l) (hp : pathP l = true) :
    Calls Try.prog 19 #[.slice a np cp] w fun e W' => e = .returned (.bool true) ∧ Below w.heap.size w W' := by
  obtain ⟨hlen, hP⟩ := hP
  have HL : Hid (l.length = np) := hlen
  obtain ⟨⟨hl1, hl2⟩, hok, hbs⟩ := pathP_iff.1 hp
  have HOK : Hid (∀ i, i < np → okP (ptAt l i) = true) := fun i hi => hok i (by rw [hlen]; exact hi)
  have HBS : Hid (∀ i, i + 1 < np → besP (ptAt l i) (ptAt l (i + 1)) = true) := fun i hi => hbs i (by rw [hlen]; exact hi)
  rw [hlen] at hl1 hl2
  rcases hP with h0 | ⟨g, off, rfl, hg, hc⟩
  · omega
  have HC : Hid (∀ j, j < np → w.cell? ⟨g, off + j * 2, none⟩ = some (.int .i64 (ptAt l j).1) ∧ w.cell? ⟨g, off + j * 2 + 1, none⟩ = some (.int .i64 (ptAt l j).2)) := hc
  have i1 : (0 : Int) < (np : Int) := by omega
  clear hlen hc hok hbs hp
  go_enter Try.func19, Try.ntmps19
  go_wp2_with fail
  go_loopw [3] (fun i wr => ∃ k : Nat, k ≤ np ∧ i = .int .i64 k ∧ Below w.heap.size w wr) (fun i _ => np - (intOf i).toNat)
  case atStart => exact ⟨0, Nat.zero_le _, rfl, bw_refl _⟩
  case round =>
    obtain ⟨k, hk, rfl, hnx⟩ := hrel
    by_cases hlt : k < np
    case neg =>
      obtain rfl : k = np := by omega
      have b0 : (0 : Nat) < k := by omega
      go_wp2_with fail
      go_ret
      exact ⟨by first | rfl | (show Ending.returned (.bool (decide (0 < k))) = _; rw [decide_eq_true b0]), hnx⟩
    case pos =>
      have i3 : (0 : Int) ≤ (k : Int) := Int.natCast_nonneg _
      have i4 : (k : Int) < (np : Int) := by omega
      obtain ⟨d0, d1⟩ := HC.out k hlt
      have q0 := cell_regrown ((hnx.cell (p := ⟨g, off + k * 2, none⟩) hg).trans d0)
      have q1 := cell_regrown ((hnx.cell (p := ⟨g, off + k * 2 + 1, none⟩) hg).trans d1)
      have X1 : Hid (∀ V, Calls Try.prog 18 #[.agg #[.int .i64 (ptAt l k).1, .int .i64 (ptAt l k).2]] V fun e w' => e = .returned (.bool true) ∧ Below V.heap.size V w') := fun V => by
        have h1 := ptOk_any (ptAt l k).1 (ptAt l k).2 V
        have h2 := HOK.out k hlt
        unfold okP at h2
        rwa [h2] at h1
      clear d0 d1
      rcases Nat.eq_zero_or_pos k with hk0 | hk0
      · subst hk0
        simp only [Nat.zero_mul, Nat.add_zero] at q0 q1
        go_wp2_with fail
        refine wp_region_quiet_below (by kernel_rfl) (by kernel_rfl) ?_
        repeat (first | go_big_quiet_step (first | (go_at_call 18; with_reducible exact Calls.regrown_of (X1.out _))))
        refine wpQuiet_nil ?_
        intro _ hw'
        obtain ⟨⟨dq, osq⟩, hw''⟩ := hw'
        subst hw''
        have J := below_regrown wr dq osq
        generalize grow (redrawn wr dq) osq = v1 at J ⊢
        go_wp2_with fail
        go_roundw
        case rel => exact ⟨0 + 1, by omega, by simp, bw_trans hnx J⟩
        case measure => simp [intOf]; omega
      · obtain ⟨q, rfl⟩ : ∃ q, k = q + 1 := ⟨k - 1, by omega⟩
        obtain ⟨d0, d1⟩ := HC.out q (by omega)
        have s0 := cell_regrown ((hnx.cell (p := ⟨g, off + q * 2, none⟩) hg).trans d0)
        have s1 := cell_regrown ((hnx.cell (p := ⟨g, off + q * 2 + 1, none⟩) hg).trans d1)
        have j1 : IntKind.i64.wrap ((q : Int)) = (q : Int) := wrap_small (by omega) (by omega)
        have j2 : (0 : Int) ≤ (q : Int) := Int.natCast_nonneg _
        have j3 : (q : Int) < (np : Int) := by omega
        have j5 : (0 : Int) < (q : Int) + 1 := by omega
        have X2 : Hid (∀ V, Calls Try.prog 42 #[.agg #[.int .i64 (ptAt l q).1, .int .i64 (ptAt l q).2], .agg #[.int .i64 (ptAt l (q+1)).1, .int .i64 (ptAt l (q+1)).2]] V fun e w' => e = .returned (.int .i64 1) ∧ Below V.heap.size V w') := fun V => by
          have h1 := luSq_one (ptAt l q) (ptAt l (q + 1)) V (HOK.out q (by omega)) (HOK.out (q + 1) hlt)
          have h2 := of_decide_eq_true (HBS.out q hlt)
          rwa [h2] at h1
        clear d0 d1
        go_wp2_with fail
        refine wp_region_quiet_below (by kernel_rfl) (by kernel_rfl) ?_
        repeat (first | go_big_quiet_step (first | (go_at_call 18; with_reducible exact Calls.regrown_of (X1.out _)) | (go_at_call 42; with_reducible exact Calls.regrown_of (X2.out _))))
        refine wpQuiet_nil ?_
        intro _ hw'
        obtain ⟨⟨dq, osq⟩, hw''⟩ := hw'
        subst hw''
        have J := below_regrown wr dq osq
        generalize grow (redrawn wr dq) osq = v1 at J ⊢
        go_wp2_with fail
        go_roundw
        case rel => exact ⟨q + 1 + 1, by omega, by simp, bw_trans hnx J⟩
        case measure => simp [intOf]; omega
set_option maxRecDepth 100000 in
set_option maxHeartbeats 4000000 in
theorem luAmong_yes (a : Option Addr) (np cp : Nat) (l : List P2) (p : P2) (w : World) (hn : np ≤ 1048576) (hP : Pts w.heap.size w a np l) (hp : p ∈ l) :
    Calls Try.prog 37 #[.slice a np cp, .agg #[.int .i64 p.1, .int .i64 p.2]] w fun e W' => e = .returned (.bool true) ∧ Below w.heap.size w W' := by
  obtain ⟨hlen, hP⟩ := hP
  obtain ⟨j, hj, hjp⟩ := List.getElem_of_mem hp
  have hjj : ptAt l j = p := by rw [ptAt_lt hj]; exact hjp
  rw [hlen] at hj
  clear hjp hp
  rcases hP with h0 | ⟨g, off, rfl, hg, hc⟩
  · omega
  obtain ⟨px, py⟩ := p
  obtain ⟨W, hW, BW, T⟩ := boxes1 w (.cells #[.int .i64 px, .int .i64 py] 30)
  have HC : Hid (∀ j, j < np → w.cell? ⟨g, off + j * 2, none⟩ = some (.int .i64 (ptAt l j).1) ∧ w.cell? ⟨g, off + j * 2 + 1, none⟩ = some (.int .i64 (ptAt l j).2)) := hc
  have HJ : Hid (ptAt l j = (px, py)) := hjj
  clear hc hjj
  go_enter Try.func37, Try.ntmps37
  go_upto_region 1 with fail
  rw [← hW]
  clear hW
  go_wp2_with fail
  go_loopw [5] (fun i wr => ∃ k : Nat, k ≤ j ∧ i = .int .i64 k ∧ Below W.heap.size W wr) (fun i _ => np - (intOf i).toNat)
  case atStart => exact ⟨0, Nat.zero_le _, rfl, bw_refl _⟩
  case round =>
    obtain ⟨k, hk, rfl, hnx⟩ := hrel
    have i3 : (0 : Int) ≤ (k : Int) := Int.natCast_nonneg _
    have i4 : (k : Int) < (np : Int) := by omega
    have hgW : g < W.heap.size := Nat.lt_of_lt_of_le hg BW.size
    obtain ⟨d0, d1⟩ := HC.out k (by omega)
    obtain ⟨ux, hux⟩ : ∃ ux, ux = (ptAt l k).1 := ⟨_, rfl⟩
    obtain ⟨uy, huy⟩ : ∃ uy, uy = (ptAt l k).2 := ⟨_, rfl⟩
    have HU : Hid (ptAt l k = (ux, uy)) := by change _ = _; rw [hux, huy]
    rw [← hux] at d0
    rw [← huy] at d1
    have hn2 := bw_trans BW hnx
    have q0 := cell_regrown ((hn2.cell (p := ⟨g, off + k * 2, none⟩) hg).trans d0)
    have q1 := cell_regrown ((hn2.cell (p := ⟨g, off + k * 2 + 1, none⟩) hg).trans d1)
    obtain ⟨t0, t1⟩ := reg_2 (keep hnx T)
    clear d0 d1 hux huy
    by_cases hx : ux = px
    · by_cases hy : uy = py
      · subst hx hy
        go_wp2_with fail
        refine wp_region_quiet_below (by kernel_rfl) (by kernel_rfl) ?_
        repeat (first | go_big_quiet_step (fail))
        refine wpQuiet_nil ?_
        intro _ hw'
        obtain ⟨⟨dq, osq⟩, hw''⟩ := hw'
        subst hw''
        have J := below_regrown wr dq osq
        generalize grow (redrawn wr dq) osq = v1 at J ⊢
        go_wp2_with fail
        go_ret
        exact ⟨rfl, bw_trans hn2 J⟩
      · have hkj : k ≠ j := fun e => by subst e; have := HU.out.symm.trans HJ.out; rw [Prod.mk.injEq] at this; exact hy this.2
        subst hx
        have y1 : (uy == py) = false := by simpa using hy
        have y2 : (uy = py) = False := by simpa using hy
        clear hy
        go_wp2_with fail
        refine wp_region_quiet_below (by kernel_rfl) (by kernel_rfl) ?_
        repeat (first | go_big_quiet_step (fail))
        refine wpQuiet_nil ?_
        intro _ hw'
        obtain ⟨⟨dq, osq⟩, hw''⟩ := hw'
        subst hw''
        have J := below_regrown wr dq osq
        generalize grow (redrawn wr dq) osq = v1 at J ⊢
        go_wp2_with fail
        go_roundw
        case rel => exact ⟨k + 1, by omega, by simp, bw_trans hnx J⟩
        case measure => simp [intOf]; omega
    · have hkj : k ≠ j := fun e => by subst e; have := HU.out.symm.trans HJ.out; rw [Prod.mk.injEq] at this; exact hx this.1
      have y1 : (ux == px) = false := by simpa using hx
      have y2 : (ux = px) = False := by simpa using hx
      clear hx
      go_wp2_with fail
      refine wp_region_quiet_below (by kernel_rfl) (by kernel_rfl) ?_
      repeat (first | go_big_quiet_step (fail))
      refine wpQuiet_nil ?_
      intro _ hw'
      obtain ⟨⟨dq, osq⟩, hw''⟩ := hw'
      subst hw''
      have J := below_regrown wr dq osq
      generalize grow (redrawn wr dq) osq = v1 at J ⊢
      go_wp2_with fail
      go_roundw
      case rel => exact ⟨k + 1, by omega, by simp, bw_trans hnx J⟩
      case measure => simp [intOf]; omega
set_option maxRecDepth 100000 in
set_option maxHeartbeats 4000000 in
theorem luPart_ok (a a' : Option Addr) (np cp np' cp' : Nat) (l l' : List P2) (w : World) (hn : np ≤ 1048576) (hn' : np' ≤ 1048576) (hP : Pts w.heap.size w a np l) (hP' : Pts w.heap.size w a' np' l') (hm : ∀ p ∈ l, p ∈ l') :
    Calls Try.prog 15 #[.slice a np cp, .slice a' np' cp'] w fun e W' => e = .returned (.bool true) ∧ Below w.heap.size w W' := by
  obtain ⟨hlen, hP⟩ := hP
  have HL : Hid (l.length = np) := hlen
  have HM : Hid (∀ i, i < np → ptAt l i ∈ l') := fun i hi => hm _ (by rw [ptAt_lt (by rw [hlen]; exact hi)]; exact List.getElem_mem _)
  clear hlen hm
  go_enter Try.func15, Try.ntmps15
  go_wp2_with fail
  go_loopw [5] (fun i wr => ∃ k : Nat, k ≤ np ∧ i = .int .i64 k ∧ Below w.heap.size w wr) (fun i _ => np - (intOf i).toNat)
  case atStart => exact ⟨0, Nat.zero_le _, rfl, bw_refl _⟩
  case round =>
    obtain ⟨k, hk, rfl, hnx⟩ := hrel
    by_cases hlt : k < np
    case neg =>
      obtain rfl : k = np := by omega
      go_wp2_with fail
      go_ret
      exact ⟨rfl, hnx⟩
    case pos =>
      rcases hP with h0 | ⟨g, off, rfl, hg, hc⟩
      · omega
      have i3 : (0 : Int) ≤ (k : Int) := Int.natCast_nonneg _
      have i4 : (k : Int) < (np : Int) := by omega
      obtain ⟨d0, d1⟩ := hc k hlt
      have q0 := (hnx.cell (p := ⟨g, off + k * 2, none⟩) hg).trans d0
      have q1 := (hnx.cell (p := ⟨g, off + k * 2 + 1, none⟩) hg).trans d1
      have hA := luAmong_yes a' np' cp' l' (ptAt l k) wr hn' ((hP'.below hnx).grow hnx.size) (HM.out k hlt)
      clear d0 d1 hc
      go_wp2_with fail
      refine hA.mono ?_
      rintro e v1 ⟨rfl, J⟩
      go_wp2_with fail
      go_roundw
      case rel => exact ⟨k + 1, by omega, by simp, bw_trans hnx J⟩
      case measure => simp [intOf]; omega
end Go.Proofs.Ytmoikmpbcdkidaa
