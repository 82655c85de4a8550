/-
  OUR OWN TEXT. The specification's LoopSize, by contract, at every points.
-/
import Derived.Test.YtempleochkohlaaSOk
import Derived.Test.YtempleochkohlaaLoopX
namespace Go.Proofs.Ytempleochkohlaa
open Go.RowKit Go.Sort

theorem okV_pt {pts : List P2} (h : okV pts = true) {i : Nat} (hi : i < pts.length) : ptB (ptAt pts i).1 (ptAt pts i).2 = true := (sgP_pt (((okV_iff pts).1 h).seg i hi)).1
theorem sCross_raw (a b c : P2) (ha : ptB a.1 a.2 = true) (hb : ptB b.1 b.2 = true) (hc : ptB c.1 c.2 = true) (w : World) :
    Calls Try.prog 50 #[.agg #[.int .i64 a.1, .int .i64 a.2], .agg #[.int .i64 b.1, .int .i64 b.2], .agg #[.int .i64 c.1, .int .i64 c.2]] w fun e w' => e = .returned (.int .i64 (crs a.1 a.2 b.1 b.2 c.1 c.2)) ∧ Below w.heap.size w w' := sCross_any _ _ _ _ _ _ w ha hb hc
theorem fan_bd {pts : List P2} (h : okV pts = true) (k : Nat) (hk : k < pts.length) : -(162 * k) ≤ fan pts k ∧ fan pts k ≤ 162 * k := by
  induction k with
  | zero => simp [fan]
  | succ k ih =>
    have i := ih (by omega)
    cases k with
    | zero => simp [fan]
    | succ k =>
      have e : fan pts (k + 1 + 1) = fan pts (k + 1) + triE pts (k + 1) := rfl
      have b := crs_bd (okV_pt h (i := 0) (by omega)) (okV_pt h (i := k + 1) (by omega)) (okV_pt h (i := k + 1 + 1) hk)
      have b' : -162 ≤ triE pts (k + 1) ∧ triE pts (k + 1) ≤ 162 := b
      rw [e]; omega
set_option maxRecDepth 100000 in
set_option maxHeartbeats 2000000 in
theorem sSizeI_ok (b off len cap : Nat) (pts : List P2) (hok : okV pts = true) (hl : pts.length = len) (w : World) (hb : b < w.heap.size)
    (hc : ∀ j, j < len → w.cell? ⟨b, off + j * 2, none⟩ = some (.int .i64 (ptAt pts j).1) ∧ w.cell? ⟨b, off + j * 2 + 1, none⟩ = some (.int .i64 (ptAt pts j).2)) :
    Calls Try.prog 66 #[.slice (some ⟨b, off, none⟩) len cap] w fun e w' => e = .returned (.int .i64 (sizeI pts)) ∧ Below w.heap.size w w' := by
  have h3 := ((okV_iff pts).1 hok).lo
  have h8 := ((okV_iff pts).1 hok).hi
  have hsz : Hid (sizeI pts = fan pts (len - 1)) := by change _ = _; rw [sizeI_fan pts (by omega), hl]
  have hP : Hid (∀ i, i < len → ptB (ptAt pts i).1 (ptAt pts i).2 = true) := fun i hi => okV_pt hok (by omega)
  have hF : Hid (∀ k, k < len → -(162 * k) ≤ fan pts k ∧ fan pts k ≤ 162 * k) := fun k hk => fan_bd hok k (by omega)
  have hl8 : 3 ≤ len ∧ len ≤ 8 := by omega
  clear hok h3 h8 hl
  go_enter Try.func66, Try.ntmps66
  go_wp2_with fail
  go_loopw [3, 4] (fun s i wr => ∃ k : Nat, 1 ≤ k ∧ k < len ∧ i = .int .i64 k ∧ s = .int .i64 (fan pts k) ∧ Below w.heap.size w wr) (fun _ i _ => len - (intOf i).toNat)
  case atStart => exact ⟨1, by omega, by omega, rfl, rfl, bw_refl _⟩
  case round =>
    obtain ⟨k, hk1, hk, rfl, rfl, hnx⟩ := hrel
    have q1 : IntKind.i64.wrap ((k : Int) + 1) = (k : Int) + 1 := wrap_small (by omega) (by omega)
    by_cases hlt : k + 1 < len
    · have d0 := cell_regrown ((hnx.cell (p := ⟨b, off + 0 * 2, none⟩) hb).trans (hc 0 (by omega)).1)
      have d1 := cell_regrown ((hnx.cell (p := ⟨b, off + 0 * 2 + 1, none⟩) hb).trans (hc 0 (by omega)).2)
      rw [Nat.zero_mul, Nat.add_zero] at d0 d1
      have d2 := cell_regrown ((hnx.cell (p := ⟨b, off + k * 2, none⟩) hb).trans (hc k (by omega)).1)
      have d3 := cell_regrown ((hnx.cell (p := ⟨b, off + k * 2 + 1, none⟩) hb).trans (hc k (by omega)).2)
      have d4 := cell_regrown ((hnx.cell (p := ⟨b, off + (k + 1) * 2, none⟩) hb).trans (hc (k + 1) hlt).1)
      have d5 := cell_regrown ((hnx.cell (p := ⟨b, off + (k + 1) * 2 + 1, none⟩) hb).trans (hc (k + 1) hlt).2)
      have i0 : (0 : Int) ≤ (k : Int) := Int.natCast_nonneg _
      have i1 : (k : Int) < (len : Int) := by omega
      have i2 : (k : Int) + 1 < (len : Int) := by omega
      have bd := hF.out (k + 1) hlt
      have es : Hid (fan pts (k + 1) = fan pts k + crs (ptAt pts 0).1 (ptAt pts 0).2 (ptAt pts k).1 (ptAt pts k).2 (ptAt pts (k + 1)).1 (ptAt pts (k + 1)).2) := by
        change _ = _
        obtain ⟨j, rfl⟩ : ∃ j, k = j + 1 := ⟨k - 1, by omega⟩
        rfl
      rw [es.out] at bd
      have hX : Hid (∀ w, Calls Try.prog 50 #[.agg #[.int .i64 (ptAt pts 0).1, .int .i64 (ptAt pts 0).2], .agg #[.int .i64 (ptAt pts k).1, .int .i64 (ptAt pts k).2], .agg #[.int .i64 (ptAt pts (k + 1)).1, .int .i64 (ptAt pts (k + 1)).2]] w fun e w' => e = .returned (.int .i64 (crs (ptAt pts 0).1 (ptAt pts 0).2 (ptAt pts k).1 (ptAt pts k).2 (ptAt pts (k + 1)).1 (ptAt pts (k + 1)).2)) ∧ Below w.heap.size w w') := fun w => sCross_raw _ _ _ (hP.out 0 (by omega)) (hP.out k (by omega)) (hP.out (k + 1) hlt) w
      generalize crs (ptAt pts 0).1 (ptAt pts 0).2 (ptAt pts k).1 (ptAt pts k).2 (ptAt pts (k + 1)).1 (ptAt pts (k + 1)).2 = z at *
      have hw : IntKind.i64.wrap (fan pts k + z) = fan pts k + z := wrap_small (by omega) (by omega)
      go_wp2_with fail
      refine wp_region_quiet_below (by kernel_rfl) (by kernel_rfl) ?_
      repeat (first | go_big_quiet_step (first | (go_at_call 50; with_reducible exact Calls.regrown_of (hX.out _))))
      refine wpQuiet_nil ?_
      intro _ hw'
      obtain ⟨⟨dq, osq⟩, hw''⟩ := hw'
      subst hw''
      have J := below_regrown wr dq osq
      generalize grow (redrawn wr dq) osq = w1 at J ⊢
      go_wp2_with fail
      go_roundw
      case rel => exact ⟨k + 1, by omega, by omega, by simp, by rw [es.out], bw_trans hnx J⟩
      case measure => simp [intOf]; omega
    · obtain rfl : k = len - 1 := by omega
      have hn : ¬ (((len - 1 : Nat) : Int) + 1 < (len : Int)) := by omega
      go_wp2_with fail
      go_ret
      exact ⟨ret_int hsz.out.symm, hnx⟩
theorem sSize_any (a : Option Addr) (len cap : Nat) (pts : List P2) (hlen : len ≤ 1048576) (w : World) (hP : Pts w.heap.size w a len pts) :
    Calls Try.prog 33 #[.slice a len cap] w fun e w' => e = .returned (.int .i64 (sizeV pts)) ∧ Below w.heap.size w w' := by
  have hcall := sOk_any a len cap pts hlen w hP
  cases hok : okV pts
  · rw [hok] at hcall
    have e1 : Hid (sizeV pts = 0) := by change _ = _; unfold sizeV; rw [hok]; rfl
    go_enter Try.func33, Try.ntmps33
    go_wp2_with (go_at_call 20; refine hcall.mono ?_; rintro e v ⟨rfl, J0⟩)
    go_ret
    exact ⟨ret_int e1.out.symm, J0⟩
  · rw [hok] at hcall
    have e1 : Hid (sizeV pts = sizeI pts) := by change _ = _; unfold sizeV; rw [hok]; rfl
    have h3 := ((okV_iff pts).1 hok).lo
    obtain ⟨hl, hP2⟩ := hP
    rcases hP2 with h0 | ⟨b, off, rfl, hb, hc⟩
    · omega
    go_enter Try.func33, Try.ntmps33
    go_wp2_with (go_at_call 20; refine hcall.mono ?_; rintro e v ⟨rfl, J0⟩)
    refine (sSizeI_ok b off len cap pts hok hl v (by have := J0.size; omega) (fun j hj => ⟨(J0.cell (p := ⟨b, off + j * 2, none⟩) hb).trans (hc j hj).1, (J0.cell (p := ⟨b, off + j * 2 + 1, none⟩) hb).trans (hc j hj).2⟩)).mono ?_
    rintro e w1 ⟨rfl, J1⟩
    go_wp2_with fail
    go_ret
    exact ⟨ret_int e1.out.symm, bw_trans J0 J1⟩
end Go.Proofs.Ytempleochkohlaa
