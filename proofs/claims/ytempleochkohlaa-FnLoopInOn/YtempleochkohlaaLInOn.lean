/-
  OUR OWN TEXT. The law FnLoopInOn, walked: whatever bytes come in, it answers true and writes nothing that was there.
-/
import Derived.Test.YtempleochkohlaaDrawL
import Derived.Test.YtempleochkohlaaLExLoopIn
import Derived.Test.YtempleochkohlaaLEdges
import Derived.Deep.RegionHeld3
import Derived.Test.YtempleochkohlaaLuL
namespace Go.Proofs.Ytempleochkohlaa
open Go.RowKit Go.Sort

theorem loopInOn_long (w : World) (a0 a1 : Option Addr) (len0 cap0 len1 cap1 : Nat) (h : 1048576 < len0 ∨ (len0 ≤ 1048576 ∧ 1048576 < len1)) :
    Calls Try.prog 6 #[.slice a0 len0 cap0, .slice a1 len1 cap1] w fun e w' => e = .returned (.bool true) ∧ Below w.heap.size w w' := by
  rcases h with h | ⟨h, h2⟩
  · go_enter Try.func6, Try.ntmps6
    go_wp2
    go_ret
    exact ⟨rfl, bw_refl _⟩
  · have h' : ¬ (1048576 < len0) := by omega
    go_enter Try.func6, Try.ntmps6
    go_wp2
    go_ret
    exact ⟨rfl, bw_refl _⟩
set_option maxRecDepth 100000 in
set_option maxHeartbeats 4000000 in
theorem loopInOn_walk (w : World) (a0 : Option Addr) (len0 cap0 : Nat) (z0 : List Int) (r0 : IsRow .u8 w a0 len0 cap0 z0) (a1 : Option Addr) (len1 cap1 : Nat) (z1 : List Int) (_ : IsRow .u8 w a1 len1 cap1 z1) :
    Calls Try.prog 6 #[.slice a0 len0 cap0, .slice a1 len1 cap1] w fun e w' => e = .returned (.bool true) ∧ Below w.heap.size w w' := by
  by_cases hl : 1048576 < len0 ∨ (len0 ≤ 1048576 ∧ 1048576 < len1)
  · exact loopInOn_long w a0 a1 len0 cap0 len1 cap1 hl
  have hl0 : len0 ≤ 1048576 := by omega
  have hl1 : len1 ≤ 1048576 := by omega
  clear hl
  have hne : ∀ b : Int, (b != b) = false := by simp
  have heq : ∀ b : Int, (b == b) = true := by simp
  go_enter Try.func6, Try.ntmps6
  go_wp2_with fail
  refine (drawIn_any w _ r0 (bw_refl _)).mono ?_
  rintro e w1 ⟨vv, l, n, x, y, rfl, hPB, ⟨g, c, rfl, n3, n7, hl, hnc, hcm, hbg, hb⟩, J1⟩
  have hP1 := hb.pts' hl
  obtain ⟨W, hW, BW, T⟩ := boxes1' w1 (.cells #[.int .i64 x, .int .i64 y] 24)
  have hPW := (hP1.below BW).grow BW.size
  have KW := bw_trans J1 BW
  have K1W := BW
  obtain ⟨t0, t1⟩ := blk_2 T
  have zT := blk_lt T
  go_upto_region 4 with fail
  rw [← hW]
  clear hW
  go_wp2_with fail
  refine (in_xy _ n c l x y (by omega) _ hPW).mono ?_
  rintro e w2 ⟨rfl, J2⟩
  have K2 := bw_trans KW J2
  have hP2 := (hPW.below J2).grow J2.size
  replace T := keep J2 T
  clear t0 t1 zT
  obtain ⟨t0, t1⟩ := blk_2 T
  have zT := blk_lt T
  go_wp2_with fail
  refine (sIn_xy _ n c l x y (by omega) _ hP2).mono ?_
  rintro e w3 ⟨rfl, J3⟩
  have K3 := bw_trans K2 J3
  have hP3 := (hP2.below J3).grow J3.size
  replace T := keep J3 T
  clear t0 t1 zT
  obtain ⟨t0, t1⟩ := blk_2 T
  have zT := blk_lt T
  cases hok : okV l
  case false =>
    go_wp2_with fail
    refine (sOk_any _ n c l (by omega) _ hP3).mono ?_
    rw [hok]
    rintro e w4 ⟨rfl, J4⟩
    have K4 := bw_trans K3 J4
    have hP4 := (hP3.below J4).grow J4.size
    obtain ⟨t0', t1'⟩ := blk_2 (keep J4 T)
    go_wp2_with fail
    refine (sIn_xy _ n c l x y (by omega) _ hP4).mono ?_
    rintro e w5 ⟨rfl, J5⟩
    go_wp2_with fail
    go_ret
    exact ⟨rfl, bw_trans K4 J5⟩
  case true =>
    go_wp2_with fail
    refine (sOk_any _ n c l (by omega) _ hP3).mono ?_
    rw [hok]
    rintro e w4 ⟨rfl, J4⟩
    have K4 := bw_trans K3 J4
    have hP4 := (hP3.below J4).grow J4.size
    replace T := keep J4 T
    clear t0 t1 zT
    obtain ⟨t0, t1⟩ := blk_2 T
    have zT := blk_lt T
    cases hp : ptB x y
    case false =>
      go_wp2_with fail
      refine (sPt_any x y _).mono ?_
      rw [hp]
      rintro e w5 ⟨rfl, J5⟩
      have K5 := bw_trans K4 J5
      have hP5 := (hP4.below J5).grow J5.size
      obtain ⟨t0', t1'⟩ := blk_2 (keep J5 T)
      go_wp2_with fail
      refine (sIn_xy _ n c l x y (by omega) _ hP5).mono ?_
      rintro e w6 ⟨rfl, J6⟩
      go_wp2_with fail
      go_ret
      exact ⟨rfl, bw_trans K5 J6⟩
    case true =>
      go_wp2_with fail
      refine (sPt_any x y _).mono ?_
      rw [hp]
      rintro e w5 ⟨rfl, J5⟩
      have K5 := bw_trans K4 J5
      have K15 : Below w1.heap.size w1 w5 := bw_trans (bw_trans (bw_trans (bw_trans K1W J2) J3) J4) J5
      have hP5 := (hP4.below J5).grow J5.size
      replace T := keep J5 T
      clear t0 t1 zT
      obtain ⟨t0, t1⟩ := blk_2 T
      have zT := blk_lt T
      have hO := (okV_iff l).1 hok
      obtain ⟨t, hk⟩ : ∃ t : Nat, (len1 : Int).tmod (n : Int) = (t : Int) := ⟨((len1 : Int).tmod (n : Int)).toNat, by rw [Int.toNat_of_nonneg]; exact (tmod_bd (len1 : Int) n (by omega) (by omega)).1⟩
      have hkn : t < n := by have := (tmod_bd (len1 : Int) (n : Int) (by omega) (by omega)).2; omega
      have hz : (n = 0) = False := by simp; omega
      have ok1 : okV (rot t l) = true := (okV_iff _).2 (hO.rot (by omega))
      have ok2 : okV l.reverse = true := (okV_iff _).2 hO.rev
      have ok3 : okV (l.map mirP) = true := (okV_iff _).2 (hO.side mir_side)
      have ok4 : okV (l.map swpP) = true := (okV_iff _).2 (hO.side swp_side)
      have pm : ptB (9 - x) y = true := pt_mir hp
      have ps : ptB y x = true := pt_swap hp
      have EV : ∀ (m : List P2) (q : P2), okV m = true → ptB q.1 q.2 = true → inV m q = inI m q := fun m q h1 h2 => by unfold inV; rw [h1, h2]; rfl
      have E1 : Hid (inV (rot t l) (x, y) = inV l (x, y)) := by change _ = _; rw [EV _ _ ok1 hp, EV _ _ hok hp, inI_rot (by omega)]
      have E2 : Hid (inV l.reverse (x, y) = inV l (x, y)) := by change _ = _; rw [EV _ _ ok2 hp, EV _ _ hok hp, inI_rev]
      have E3 : Hid (inV (l.map mirP) (9 - x, y) = inV l (x, y)) := by change _ = _; rw [EV _ _ ok3 pm, EV _ _ hok hp]; exact inI_mir l (x, y)
      have E4 : Hid (inV (l.map swpP) (y, x) = inV l (x, y)) := by change _ = _; rw [EV _ _ ok4 ps, EV _ _ hok hp]; exact inI_swp l (x, y)
      have E0 : Hid (((inV l (x, y) == 0) == onL l (x, y)) = true) := by
        change _ = _
        rw [EV _ _ hok hp]
        have := inI_zero l (x, y)
        cases h : onL l (x, y)
        · rw [h] at this; simp; intro e; have := this.1 e; cases this
        · rw [h] at this; simp; exact this.2 rfl
      have HP : Hid (∀ i, i < n → ptB (ptAt l i).1 (ptAt l i).2 = true) := fun i hi => (sgP_pt (hO.seg i (by omega))).1
      have HS : Hid (∀ i, i < n → sgP (ptAt l i) (ptAt l (nxt l i)) = true) := fun i hi => hO.seg i (by omega)
      have L1 : Hid ((rot t l).length = n) := by change _ = _; rw [rot_len (by omega), hl]
      have L2 : Hid (l.reverse.length = n) := by change _ = _; rw [List.length_reverse, hl]
      have L3 : Hid ((l.map mirP).length = n) := by change _ = _; rw [List.length_map, hl]
      have L4 : Hid ((l.map swpP).length = n) := by change _ = _; rw [List.length_map, hl]
      have HL : Hid (l.length = n) := hl
      clear hO EV ok1 ok2 ok3 ok4
      clear J2 J3 J4 hP1 hPW hP2 hP3 hP4
      replace hb : PtBlk w5 g c l n := by
        have B5 : Below w1.heap.size w1 w5 := K15
        exact hb.below B5
      go_wp2_with fail
      refine (loopEdges_any (some ⟨g, 0, none⟩) n c l (by omega) _ hP5).mono ?_
      rintro e w6 ⟨hE, J6⟩
      rcases hE with ⟨hno, _⟩ | ⟨_, ev, rfl, hown⟩
      · rw [hok] at hno; cases hno
      have hR : ∃ g' cap', ev = .slice (some ⟨g', 0, none⟩) n cap' ∧ g' < w6.heap.size ∧ SegRow w6 g' n l := by
        have hown' := hown
        rcases hown.2 with ⟨_, h0⟩ | ⟨g', cap', cur, rfl, hg1, hg2, _⟩
        · omega
        · exact ⟨g', cap', rfl, (Array.getElem?_eq_some_iff.1 hg2).1, SegRow.of_owns hown'⟩
      obtain ⟨g', cap', rfl, hg', hS⟩ := hR
      have K6 := bw_trans K5 J6
      replace T := keep J6 T
      replace hb := hb.below J6
      clear hown J6 J5 t0 t1 zT hP5 hl
      go_wp2_with fail
      go_loopw [8, 10] (fun o i wr => ∃ k : Nat, k ≤ n ∧ i = .int .i64 k ∧ o = .bool ((List.range k).any (onE l (x, y))) ∧ Below w6.heap.size w6 wr) (fun _ i _ => n - (intOf i).toNat)
      case atStart => exact ⟨0, Nat.zero_le _, rfl, rfl, bw_refl _⟩
      case round =>
        obtain ⟨k, hk', rfl, rfl, hnx⟩ := hrel
        by_cases hlt : k < n
        · have i0 : (0 : Int) ≤ (k : Int) := Int.natCast_nonneg _
          have i1 : (k : Int) < (n : Int) := by omega
          have sk := HS.out k hlt
          have hsn : Hid ((List.range (k + 1)).any (onE l (x, y)) = ((List.range k).any (onE l (x, y)) || onE l (x, y) k)) := by change _ = _; rw [List.range_succ, List.any_append]; simp
          obtain ⟨d0, d1, d2, d3⟩ := regrow4 ((hS.below hnx hg') k hlt)
          obtain ⟨u0, u1⟩ := reg_2 (keep hnx T)
          have X1 : Hid (∀ w, Calls Try.prog 26 #[.agg #[.int .i64 (ptAt l k).1, .int .i64 (ptAt l k).2, .int .i64 (ptAt l (nxt l k)).1, .int .i64 (ptAt l (nxt l k)).2], .agg #[.int .i64 x, .int .i64 y]] w fun e w' => e = .returned (.bool (onE l (x, y) k)) ∧ Below w.heap.size w w') := fun w => by
            have := has_raw (ptAt l k) (ptAt l (nxt l k)) (x, y) w; rwa [hasQ_of sk hp] at this
          cases ha : (List.range k).any (onE l (x, y))
          · rw [ha] at hsn
            go_wp2_with fail
            refine wp_region_quiet_below (by kernel_rfl) (by kernel_rfl) ?_
            repeat (first | go_big_quiet_step (first | (go_at_call 26; with_reducible exact Calls.regrown_of (X1.out _))))
            refine wpQuiet_nil ?_
            intro _ hw'
            obtain ⟨⟨dq, osq⟩, hw''⟩ := hw'
            subst hw''
            have J := below_regrown wr dq osq
            generalize grow (redrawn wr dq) osq = w7 at J ⊢
            go_wp2_with fail
            go_roundw
            case rel => exact ⟨k + 1, by omega, by simp, by rw [hsn.out]; rfl, bw_trans hnx J⟩
            case measure => simp [intOf]; omega
          · rw [ha] at hsn
            go_wp2_with fail
            refine wp_region_quiet_below (by kernel_rfl) (by kernel_rfl) ?_
            repeat (first | go_big_quiet_step (fail))
            refine wpQuiet_nil ?_
            intro _ hw'
            obtain ⟨⟨dq, osq⟩, hw''⟩ := hw'
            subst hw''
            have J := below_regrown wr dq osq
            generalize grow (redrawn wr dq) osq = w7 at J ⊢
            go_wp2_with fail
            go_roundw
            case rel => exact ⟨k + 1, by omega, by simp, by rw [hsn.out]; rfl, bw_trans hnx J⟩
            case measure => simp [intOf]; omega
        · obtain rfl : k = n := by omega
          have hon : Hid ((List.range k).any (onE l (x, y)) = onL l (x, y)) := by change _ = _; unfold onL; rw [HL.out]
          rw [hon.out]
          replace T := keep hnx T
          replace hb := hb.below hnx
          have KD : Below w.heap.size w wr.drew := (bw_trans K6 hnx).drew
          have TD : wr.drew.heap[w1.heap.size]? = some (.cells #[.int .i64 x, .int .i64 y] 24) := T
          have hbD : PtBlk wr.drew g c l k := hb
          obtain ⟨t0, t1⟩ := blk_2 T
          have e0 := E0.out
          have CO3 : Hid (∀ w, PtBlk w g c l k → Calls Try.prog 29 #[.slice (some ⟨g, 0, none⟩) k c, .bool false] w (AnsP w (l.map mirP))) := fun w h => luOver_ok mirP false g k c l w (fun i hi w => luPlace_f _ (HP.out i hi) w) h HL.out (by omega) (by omega)
          have CO4 : Hid (∀ w, PtBlk w g c l k → Calls Try.prog 29 #[.slice (some ⟨g, 0, none⟩) k c, .bool true] w (AnsP w (l.map swpP))) := fun w h => luOver_ok swpP true g k c l w (fun i hi w => luPlace_t _ w) h HL.out (by omega) (by omega)
          have zT := blk_lt T
          clear T hb hnx
          go_wp2_with fail
          go_region_held3 (fun w' => w'.cell? ⟨w1.heap.size, 0, none⟩ = some (.int .i64 x) ∧ w'.cell? ⟨w1.heap.size, 1, none⟩ = some (.int .i64 y))
            (first | go_keep | exact blk_2 TD)
            (first
              | (go_at_call 27; refine (luTurned_ok g k c t l _ hbD HL.out (by omega) hnc hcm hkn).mono ?_; rintro e w7 ⟨g7, c7, rfl, hb7, J⟩; rw [L1.out] at hb7; rw [L1.out]; replace KD := bw_trans KD J; replace TD := keep J TD; replace hbD := hbD.below J; clear J)
              | (go_at_call 28; refine (luBackward_ok g k c l _ hbD HL.out (by omega) (by omega)).mono ?_; rintro e w9 ⟨g9, c9, rfl, hb9, J⟩; rw [L2.out] at hb9; rw [L2.out]; replace KD := bw_trans KD J; replace TD := keep J TD; replace hbD := hbD.below J; clear J)
              | (go_at_call 29; (with_reducible refine (CO3.out _ hbD).mono ?_); rintro e w11 ⟨g11, c11, rfl, hb11, J⟩; rw [L3.out] at hb11; rw [L3.out]; replace KD := bw_trans KD J; replace TD := keep J TD; replace hbD := hbD.below J; clear J)
              | (go_at_call 29; (with_reducible refine (CO4.out _ hbD).mono ?_); rintro e w14 ⟨g14, c14, rfl, hb14, J⟩; rw [L4.out] at hb14; rw [L4.out]; replace KD := bw_trans KD J; replace TD := keep J TD; replace hbD := hbD.below J; clear J)
              | (go_at_call 16; refine (luMirror_ok x y _ hp).mono ?_; rintro e w12 ⟨rfl, J⟩; replace hb11 := hb11.below J; replace KD := bw_trans KD J; replace TD := keep J TD; replace hbD := hbD.below J; clear J)
              | (go_at_call 17; refine (luSwap_any x y _).mono ?_; rintro e w15 ⟨rfl, J⟩; replace hb14 := hb14.below J; replace KD := bw_trans KD J; replace TD := keep J TD; replace hbD := hbD.below J; clear J)
              | (go_at_call 22; (with_reducible refine (in_xy (some ⟨g7, 0, none⟩) k c7 (rot t l) x y (by omega) _ (hb7.pts' L1.out)).mono ?_); rw [E1.out]; rintro e w8 ⟨rfl, J⟩; replace KD := bw_trans KD J; replace TD := keep J TD; replace hbD := hbD.below J; clear J)
              | (go_at_call 22; (with_reducible refine (in_xy (some ⟨g9, 0, none⟩) k c9 l.reverse x y (by omega) _ (hb9.pts' L2.out)).mono ?_); rw [E2.out]; rintro e w10 ⟨rfl, J⟩; replace KD := bw_trans KD J; replace TD := keep J TD; replace hbD := hbD.below J; clear J)
              | (go_at_call 22; (with_reducible refine (in_xy (some ⟨g11, 0, none⟩) k c11 (l.map mirP) (9 - x) y (by omega) _ (hb11.pts' L3.out)).mono ?_); rw [E3.out]; rintro e w13 ⟨rfl, J⟩; replace KD := bw_trans KD J; replace TD := keep J TD; replace hbD := hbD.below J; clear J)
              | (go_at_call 22; (with_reducible refine (in_xy (some ⟨g14, 0, none⟩) k c14 (l.map swpP) y x (by omega) _ (hb14.pts' L4.out)).mono ?_); rw [E4.out]; rintro e w16 ⟨rfl, J⟩; replace KD := bw_trans KD J; replace TD := keep J TD; replace hbD := hbD.below J; clear J))
          go_wp2_with fail
          go_ret
          exact ⟨rfl, KD⟩
end Go.Proofs.Ytempleochkohlaa
