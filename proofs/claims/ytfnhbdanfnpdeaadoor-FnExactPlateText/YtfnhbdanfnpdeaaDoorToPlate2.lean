/-
  OUR OWN TEXT. Plates of the laws: their size, as plates of the program, held against each other: by contract.
-/
import Derived.Test.YtfnhbdanfnpdeaaDoorToPlate
namespace Go.Proofs.YtfnhbdanfnpdeaaDoor
open Go.RowKit Go.Sort

theorem setCell_1 {W : World} {b : Nat} {x y : Value} {t : TypeId} (h : Lies b #[x, y] t W) (v : Value) : Lies b #[v, y] t (W.setCell ⟨b, 0, none⟩ v) := by
  obtain ⟨hlt, hk⟩ := Array.getElem?_eq_some_iff.1 h
  show (W.heap.modify b _)[b]? = _
  rw [Array.getElem?_eq_getElem (by rw [Array.size_modify]; exact hlt), Array.getElem_modify_self, hk]
  rfl
set_option maxRecDepth 100000 in
set_option maxHeartbeats 2000000 in
theorem toPlate_own (a ah : Option Addr) (la ca nh ch : Nat) (o : List P2) (hs : List (List P2)) (w : World) (h : Plt w a la ah nh o hs) (hn : nh ≤ 1048576) :
    Calls Tryd.prog 18 #[.agg #[.slice a la ca, .slice ah nh ch]] w fun e w' => ∃ g gh, e = .returned (.agg #[.slice (some ⟨g, 0, none⟩) la la, .slice (some ⟨gh, 0, none⟩) nh nh]) ∧ (w.heap.size ≤ g ∧ PtBlk w' g la o la ∧ w.heap.size ≤ gh ∧ HRow w' gh nh hs nh) ∧ Below w.heap.size w w' := by
  obtain ⟨hla, hP, hlen, A, L, C, hS, hH⟩ := h
  obtain ⟨W, hW, BW, T0, T1, T2⟩ := boxes3 w (.cells #[.slice a la ca, .slice ah nh ch] 35) (.cells #[.slice none 0 0, .slice none 0 0] 40) (.cells #[.slice none 0 0, .slice none 0 0] 40)
  obtain ⟨t0, t1⟩ := blk_2 T0
  have z2 := blk_lt T2
  go_enter Tryd.func18, Tryd.ntmps18
  go_upto_region 2 with fail
  rw [← hW]
  clear hW
  go_wp2_with fail
  refine (toPts_any a la ca o W ((hP.below BW).grow BW.size) hla).mono ?_
  rintro e w1 ⟨g, rfl, hg, hb, J1⟩
  have L0 : Lies w.heap.size #[.slice a la ca, .slice ah nh ch] 35 w1 := keep J1 T0
  have L1 : Lies (w.heap.size + 1) #[.slice none 0 0, .slice none 0 0] 40 w1 := keep J1 T1
  have L2 : Lies (w.heap.size + 1 + 1) #[.slice none 0 0, .slice none 0 0] 40 w1 := keep J1 T2
  clear t0 t1 T0 T1 T2
  have hgz : w.heap.size + 3 ≤ g := by omega
  obtain ⟨d0, d1, f0, f1⟩ := lies2 L2
  have M0 := L0.other' (B' := w.heap.size + 1 + 1) (i := 0) (by omega) (.slice (some ⟨g, 0, none⟩) la la)
  have M1 := L1.other' (B' := w.heap.size + 1 + 1) (i := 0) (by omega) (.slice (some ⟨g, 0, none⟩) la la)
  have M2 := setCell_1 L2 (.slice (some ⟨g, 0, none⟩) la la)
  have hb' := blk_setOther (B := w.heap.size + 1 + 1) (i := 0) hb (by omega) (.slice (some ⟨g, 0, none⟩) la la)
  have B1 : Below w.heap.size w (w1.setCell ⟨w.heap.size + 1 + 1, 0, none⟩ (.slice (some ⟨g, 0, none⟩) la la)) := bw_set (bw_trans BW J1) (by simp; omega) _
  obtain ⟨t0, t1, _, _⟩ := lies2 M0
  go_wp2_with fail
  refine (toPtSS_any ah nh ch hs A L C _ ((hS.below B1).grow B1.size) (fun j hj => ⟨(hH j hj).1, ((hH j hj).2.below B1).grow B1.size⟩) hn).mono ?_
  rintro e w2 ⟨gh, rfl, hgh, hr, J2⟩
  have N1 := M1.below J2
  have N2 := M2.below J2
  have hb2 := hb'.below J2
  clear t0 t1 d0 d1 f0 f1
  obtain ⟨d0, d1, f0, f1⟩ := lies2 N2
  obtain ⟨e0, e1, g0, g1⟩ := lies2 N1
  have zr := hr.lt
  have O2 := setCell_2 N2 (.slice (some ⟨gh, 0, none⟩) nh nh)
  have O1 := N1.other' (B' := w.heap.size + 1 + 1) (i := 1) (by omega) (.slice (some ⟨gh, 0, none⟩) nh nh)
  obtain ⟨x0, x1, y0, y1⟩ := lies2 O2
  obtain ⟨x2, x3, y2, y3⟩ := lies2 O1
  have Q1 := setCell_1 O1 (.slice (some ⟨g, 0, none⟩) la la)
  have R1 := setCell_2 Q1 (.slice (some ⟨gh, 0, none⟩) nh nh)
  obtain ⟨v0, v1, _, _⟩ := lies2 R1
  have hghz : w.heap.size + 3 ≤ gh := by have := B1.size; have := hb'.lt; simp at hgh; have := J1.size; omega
  go_wp2_with fail
  refine bodyPost_ret (v := .agg #[.slice (some ⟨g, 0, none⟩) la la, .slice (some ⟨gh, 0, none⟩) nh nh]) (by simp [results, Tryd.results18, go_sem, v0, v1]) rfl ⟨g, gh, rfl, ?_, ?_⟩
  · exact ⟨by omega, blk_setOther (blk_setOther (blk_setOther hb2 (by omega) _) (by omega) _) (by omega) _, by omega, ((hr.other (by omega) _).other (by omega) _).other (by omega) _⟩
  · exact bw_set (bw_set (bw_set (bw_trans B1 J2) (by simp; omega) _) (by simp) _) (by simp) _
theorem toPlate_any (a ah : Option Addr) (la ca nh ch : Nat) (o : List P2) (hs : List (List P2)) (w : World) (h : Plt w a la ah nh o hs) (hn : nh ≤ 1048576) :
    Calls Tryd.prog 18 #[.agg #[.slice a la ca, .slice ah nh ch]] w fun e w' => ∃ g gh, e = .returned (.agg #[.slice (some ⟨g, 0, none⟩) la la, .slice (some ⟨gh, 0, none⟩) nh nh]) ∧ Plt w' (some ⟨g, 0, none⟩) la (some ⟨gh, 0, none⟩) nh o hs ∧ Below w.heap.size w w' := by
  refine (toPlate_own a ah la ca nh ch o hs w h hn).mono ?_
  obtain ⟨hla, hP, hlen, A, L, C, hS, hH⟩ := h
  rintro e w' ⟨g, gh, rfl, ⟨_, h1, _, h2⟩, J⟩
  exact ⟨g, gh, rfl, plt_of h1 hP.1 hla h2 hlen (fun j hj => by have := (hH j hj).2.1; have := (hH j hj).1; show (hs[j]?.getD []).length ≤ _; omega), J⟩
set_option maxRecDepth 100000 in
set_option maxHeartbeats 1000000 in
theorem szPtSS_any (ah : Option Addr) (nh ch : Nat) (A : Nat → Option Addr) (L C : Nat → Nat) (left : Int) (h0 : 0 ≤ left) (h1 : left ≤ 1048576) (hnm : nh ≤ maxLen) (hLm : ∀ j, j < nh → L j ≤ maxLen) (w : World) (hS : SlcRow w.heap.size w ah nh A L C) :
    Calls Tryd.prog 36 #[.slice ah nh ch, .int .i64 left] w fun e w' => w' = w ∧ ((e = .returned (.int .i64 (-1))) ∨ (∃ r : Int, 0 ≤ r ∧ r ≤ 1048576 ∧ e = .returned (.int .i64 r) ∧ nh ≤ 1048576 ∧ ∀ j, j < nh → L j ≤ 1048576)) := by
  unfold maxLen at hnm
  by_cases hl : left < nh
  · have hl' : left - (nh : Int) < 0 := by omega
    go_enter Tryd.func36, Tryd.ntmps36
    go_wp2
    go_ret
    exact ⟨rfl, .inl rfl⟩
  have hl' : ¬ (left - (nh : Int) < 0) := by omega
  go_enter Tryd.func36, Tryd.ntmps36
  go_wp2
  go_loopw [1, 5] (fun s i wr => ∃ (k : Nat) (r : Int), k ≤ nh ∧ i = .int .i64 k ∧ s = .int .i64 r ∧ 0 ≤ r ∧ r ≤ 1048576 ∧ (∀ j, j < k → L j ≤ 1048576) ∧ wr = w) (fun _ i _ => nh - (intOf i).toNat)
  case atStart => exact ⟨0, left - nh, Nat.zero_le _, rfl, rfl, by omega, by omega, fun j hj => by omega, rfl⟩
  case round =>
    obtain ⟨k, r, hk, rfl, rfl, hr0, hr1, hall, rfl⟩ := hrel
    by_cases hlt : k < nh
    · rcases hS with h0' | ⟨b, off, rfl, hbl, hc⟩
      · omega
      have c0 := hc k hlt
      have i0 : (0 : Int) ≤ (k : Int) := Int.natCast_nonneg _
      have i1 : (k : Int) < (nh : Int) := by omega
      have hcall := sz_any (A k) (L k) (C k) r hr0 hr1 (hLm k hlt) wr
      clear hc
      by_cases hk2 : r < L k
      · rw [if_pos hk2] at hcall
        go_wp2_with (go_at_call 7; refine hcall.mono ?_; rintro e w2 ⟨rfl, rfl⟩)
        go_ret
        exact ⟨rfl, .inl rfl⟩
      · rw [if_neg hk2] at hcall
        have hk3 : ¬ (r - (L k : Int) < 0) := by omega
        go_wp2_with (go_at_call 7; refine hcall.mono ?_; rintro e w2 ⟨rfl, rfl⟩)
        go_roundw
        case rel => exact ⟨k + 1, r - L k, by omega, by simp, rfl, by omega, by omega, fun j hj => by rcases Nat.lt_or_ge j k with h | h; exact hall j h; obtain rfl : j = k := (by omega); omega, by first | rfl | trivial⟩
        case measure => simp [intOf]; omega
    · obtain rfl : k = nh := by omega
      go_wp2
      go_ret
      exact ⟨rfl, .inr ⟨r, hr0, hr1, rfl, by omega, hall⟩⟩
set_option maxRecDepth 100000 in
set_option maxHeartbeats 1000000 in
/-- How much of the room a plate leaves. -/
theorem szPlate_any (a ah : Option Addr) (la ca nh ch : Nat) (A : Nat → Option Addr) (L C : Nat → Nat) (hla : la ≤ maxLen) (hnm : nh ≤ maxLen) (hLm : ∀ j, j < nh → L j ≤ maxLen) (w : World) (hS : SlcRow w.heap.size w ah nh A L C) :
    Calls Tryd.prog 16 #[.agg #[.slice a la ca, .slice ah nh ch], .int .i64 1048576] w fun e w' => Below w.heap.size w w' ∧ ((e = .returned (.int .i64 (-1))) ∨ (∃ r : Int, 0 ≤ r ∧ r ≤ 1048576 ∧ e = .returned (.int .i64 r) ∧ la ≤ 1048576 ∧ nh ≤ 1048576 ∧ ∀ j, j < nh → L j ≤ 1048576)) := by
  obtain ⟨W, hW, BW, T⟩ : ∃ W, W = w.alloc (.cells #[.slice a la ca, .slice ah nh ch] 35) ∧ Below w.heap.size w W ∧ W.heap[w.heap.size]? = some (.cells #[.slice a la ca, .slice ah nh ch] 35) := ⟨_, rfl, (by repeat (first | exact bw_refl _ | assumption | apply bw_drewN | apply bw_drew | apply bw_alloc | refine bw_set ?_ (by simp) _)), heap_new _ _⟩
  have hcall := sz_any a la ca 1048576 (by omega) (by omega) hla W
  obtain ⟨t0, t1⟩ := blk_2 T
  have zT := blk_lt T
  by_cases hl : (1048576 : Int) < la
  · rw [if_pos hl] at hcall
    go_enter Tryd.func16, Tryd.ntmps16
    go_upto_region 1 with fail
    rw [← hW]
    clear hW
    go_wp2_with (go_at_call 7; refine hcall.mono ?_; rintro e v ⟨rfl, rfl⟩)
    go_ret
    exact ⟨BW, .inl rfl⟩
  · rw [if_neg hl] at hcall
    have hl2 : ¬ ((1048576 : Int) - la < 0) := by omega
    have hcall2 := szPtSS_any ah nh ch A L C (1048576 - la) (by omega) (by omega) hnm hLm W ((hS.below BW).grow BW.size)
    go_enter Tryd.func16, Tryd.ntmps16
    go_upto_region 1 with fail
    rw [← hW]
    clear hW
    go_wp2_with (go_at_call 7; refine hcall.mono ?_; rintro e v ⟨rfl, rfl⟩)
    refine hcall2.mono ?_
    rintro e v2 ⟨rfl, h⟩
    rcases h with rfl | ⟨r, r0, r1, rfl, hn, hLL⟩
    · go_wp2_with fail
      go_ret
      exact ⟨BW, .inl rfl⟩
    · have hr : ¬ (r < 0) := by omega
      go_wp2_with fail
      go_ret
      exact ⟨BW, .inr ⟨r, r0, r1, rfl, by omega, hn, hLL⟩⟩
set_option maxRecDepth 100000 in
set_option maxHeartbeats 1000000 in
theorem eqPtSS_same (a c : Option Addr) (nh ch ch' : Nat) (hs : List (List P2)) (A A' : Nat → Option Addr) (L C L' C' : Nat → Nat) (w : World) (hS : SlcRow w.heap.size w a nh A L C) (hS' : SlcRow w.heap.size w c nh A' L' C')
    (hH : ∀ j, j < nh → L j ≤ 1048576 ∧ Pts w.heap.size w (A j) (L j) (hs[j]?.getD [])) (hH' : ∀ j, j < nh → L' j ≤ 1048576 ∧ Pts w.heap.size w (A' j) (L' j) (hs[j]?.getD [])) (hn : nh ≤ 1048576) :
    Calls Tryd.prog 42 #[.slice a nh ch, .slice c nh ch'] w fun e w' => e = .returned (.bool true) ∧ Below w.heap.size w w' := by
  go_enter Tryd.func42, Tryd.ntmps42
  go_wp2
  go_loopw [5] (fun i wr => ∃ k : Nat, k ≤ nh ∧ i = .int .i64 k ∧ Below w.heap.size w wr) (fun i _ => nh - (intOf i).toNat)
  case atStart => exact ⟨0, Nat.zero_le _, rfl, bw_refl _⟩
  case round =>
    obtain ⟨k, hk, rfl, hnx⟩ := hrel
    by_cases hlt : k < nh
    · rcases hS with h0 | ⟨b, off, rfl, hbl, hc⟩
      · omega
      rcases hS' with h0 | ⟨b', off', rfl, hbl', hc'⟩
      · omega
      have d0 := cell_regrown ((hnx.cell (p := ⟨b, off + k, none⟩) hbl).trans (hc k hlt))
      have d1 := cell_regrown ((hnx.cell (p := ⟨b', off' + k, none⟩) hbl').trans (hc' k hlt))
      have i0 : (0 : Int) ≤ (k : Int) := Int.natCast_nonneg _
      have i1 : (k : Int) < (nh : Int) := by omega
      obtain ⟨hL1, hP1⟩ := hH k hlt
      obtain ⟨hL2, hP2⟩ := hH' k hlt
      have hPw1 := (hP1.below hnx).grow hnx.size
      have hPw2 := (hP2.below hnx).grow hnx.size
      have eL : L' k = L k := by have := hP1.1; have := hP2.1; omega
      have HX : Hid (∀ d os, Calls Tryd.prog 11 #[.slice (A k) (L k) (C k), .slice (A' k) (L' k) (C' k)] (grow (redrawn wr d) os) fun e W' => e = .returned (.bool true) ∧ Below (grow (redrawn wr d) os).heap.size (grow (redrawn wr d) os) W') := fun d os => by
        rw [eL] at hPw2 ⊢
        exact eqPts_same (A k) (A' k) (L k) (C k) (C' k) (hs[k]?.getD []) _ ((hPw1.below (below_regrown wr d os)).grow (below_regrown wr d os).size) ((hPw2.below (below_regrown wr d os)).grow (below_regrown wr d os).size) hL1
      clear hc hc' hP1 hP2 hPw1 hPw2 eL
      go_wp2_with fail
      refine wp_region_quiet_below (by kernel_rfl) (by kernel_rfl) ?_
      repeat (first | go_big_quiet_step (first | (go_at_call 11; with_reducible exact Calls.regrown_of (HX.out _ _))))
      refine wpQuiet_nil ?_
      intro _ hw'
      obtain ⟨⟨dq, osq⟩, hw''⟩ := hw'
      subst hw''
      have J := below_regrown wr dq osq
      generalize grow (redrawn wr dq) osq = w1 at J ⊢
      go_wp2_with fail
      go_roundw
      case rel => exact ⟨k + 1, by omega, by simp, bw_trans hnx J⟩
      case measure => simp [intOf]; omega
    · obtain rfl : k = nh := by omega
      go_wp2
      go_ret
      exact ⟨rfl, hnx⟩
set_option maxRecDepth 100000 in
set_option maxHeartbeats 1000000 in
theorem eqPlate_same (a ah c cH : Option Addr) (la ca nh ch ca' ch' : Nat) (o : List P2) (hs : List (List P2)) (w : World) (h : Plt w a la ah nh o hs) (h' : Plt w c la cH nh o hs) (hn : nh ≤ 1048576) :
    Calls Tryd.prog 20 #[.agg #[.slice a la ca, .slice ah nh ch], .agg #[.slice c la ca', .slice cH nh ch']] w fun e w' => e = .returned (.bool true) ∧ Below w.heap.size w w' := by
  obtain ⟨W, hW, BW, T0, T1⟩ := boxes2 w (.cells #[.slice a la ca, .slice ah nh ch] 40) (.cells #[.slice c la ca', .slice cH nh ch'] 40)
  obtain ⟨hla, hP, hlen, A, L, C, hS, hH⟩ := h.below BW
  obtain ⟨_, hP', _, A', L', C', hS', hH'⟩ := h'.below BW
  obtain ⟨t0, t1⟩ := blk_2 T0
  obtain ⟨u0, u1⟩ := blk_2 T1
  have z0 := blk_lt T0
  have z1 := blk_lt T1
  go_enter Tryd.func20, Tryd.ntmps20
  go_upto_region 1 with fail
  rw [← hW]
  clear hW
  go_wp2_with (go_at_call 11; refine (eqPts_same a c la ca ca' o W hP hP' hla).mono ?_; rintro e w1 ⟨rfl, J⟩; obtain ⟨t0', t1'⟩ := blk_2 (keep J T0); obtain ⟨u0', u1'⟩ := blk_2 (keep J T1); have z0' := blk_lt (keep J T0); have z1' := blk_lt (keep J T1))
  refine (eqPtSS_same ah cH nh ch ch' hs A A' L C L' C' w1 ((hS.below J).grow J.size) ((hS'.below J).grow J.size) (fun j hj => ⟨(hH j hj).1, ((hH j hj).2.below J).grow J.size⟩) (fun j hj => ⟨(hH' j hj).1, ((hH' j hj).2.below J).grow J.size⟩) hn).mono ?_
  rintro e w2 ⟨rfl, J2⟩
  go_wp2_with fail
  go_ret
  exact ⟨rfl, bw_trans (bw_trans BW J) J2⟩
end Go.Proofs.YtfnhbdanfnpdeaaDoor
