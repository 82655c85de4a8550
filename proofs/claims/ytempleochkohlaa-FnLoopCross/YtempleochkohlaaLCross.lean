/-
  OUR OWN TEXT. The law FnLoopCross, walked: whatever bytes come in, it answers true and writes nothing that was there.
-/
import Derived.Test.YtempleochkohlaaDrawL
import Derived.Test.YtempleochkohlaaLExLoopIn
import Derived.Test.YtempleochkohlaaLEdges
import Derived.Test.YtempleochkohlaaLoopL
namespace Go.Proofs.Ytempleochkohlaa
open Go.RowKit Go.Sort

theorem loopCross_long (w : World) (a0 a1 : Option Addr) (len0 cap0 len1 cap1 : Nat) (h : 1048576 < len0 ∨ (len0 ≤ 1048576 ∧ 1048576 < len1)) :
    Calls Try.prog 7 #[.slice a0 len0 cap0, .slice a1 len1 cap1] w fun e w' => e = .returned (.bool true) ∧ Below w.heap.size w w' := by
  rcases h with h | ⟨h, h2⟩
  · go_enter Try.func7, Try.ntmps7
    go_wp2
    go_ret
    exact ⟨rfl, bw_refl _⟩
  · have h' : ¬ (1048576 < len0) := by omega
    go_enter Try.func7, Try.ntmps7
    go_wp2
    go_ret
    exact ⟨rfl, bw_refl _⟩
theorem inV_bd (l : List P2) (p : P2) : -1 ≤ inV l p ∧ inV l p ≤ 1 := by
  unfold inV
  split
  · rw [inI_eq]; split
    · omega
    · split <;> omega
  · omega
set_option maxRecDepth 100000 in
set_option maxHeartbeats 4000000 in
theorem loopCross_walk (w : World) (a0 : Option Addr) (len0 cap0 : Nat) (z0 : List Int) (r0 : IsRow .u8 w a0 len0 cap0 z0) (a1 : Option Addr) (len1 cap1 : Nat) (z1 : List Int) (_ : IsRow .u8 w a1 len1 cap1 z1) :
    Calls Try.prog 7 #[.slice a0 len0 cap0, .slice a1 len1 cap1] w fun e w' => e = .returned (.bool true) ∧ Below w.heap.size w w' := by
  by_cases hl : 1048576 < len0 ∨ (len0 ≤ 1048576 ∧ 1048576 < len1)
  · exact loopCross_long w a0 a1 len0 cap0 len1 cap1 hl
  have hl0 : len0 ≤ 1048576 := by omega
  have hl1 : len1 ≤ 1048576 := by omega
  clear hl
  have hne : ∀ b : Int, (b != b) = false := by simp
  have heq : ∀ b : Int, (b == b) = true := by simp
  go_enter Try.func7, Try.ntmps7
  go_wp2_with fail
  refine (drawIn_any w _ r0 (bw_refl _)).mono ?_
  rintro e w1 ⟨vv, l, n, x, y, rfl, hPB, ⟨g, c, rfl, n3, n7, hl, hnc, hcm, hbg, hb⟩, J1⟩
  have hP1 := hb.pts' hl
  obtain ⟨W, hW, BW, T⟩ := boxes1' w1 (.cells #[.int .i64 x, .int .i64 y] 24)
  have hPW := (hP1.below BW).grow BW.size
  have KW := bw_trans J1 BW
  obtain ⟨t0, t1⟩ := blk_2 T
  have zT := blk_lt T
  go_upto_region 4 with fail
  rw [← hW]
  clear hW
  go_wp2_with fail
  refine (in_xy _ n c l x y (by omega) _ hPW).mono ?_
  rintro e w2 ⟨rfl, J2⟩
  have K2 := bw_trans KW J2
  have hP2 := (hPW.below J2).grow J2.size
  replace T := keep J2 T
  clear t0 t1 zT
  obtain ⟨t0, t1⟩ := blk_2 T
  have zT := blk_lt T
  go_wp2_with fail
  refine (sIn_xy _ n c l x y (by omega) _ hP2).mono ?_
  rintro e w3 ⟨rfl, J3⟩
  have K3 := bw_trans K2 J3
  have hP3 := (hP2.below J3).grow J3.size
  replace T := keep J3 T
  clear t0 t1 zT
  obtain ⟨t0, t1⟩ := blk_2 T
  have zT := blk_lt T
  cases hok : okV l
  case false =>
    go_wp2_with fail
    refine (sOk_any _ n c l (by omega) _ hP3).mono ?_
    rw [hok]
    rintro e w4 ⟨rfl, J4⟩
    have K4 := bw_trans K3 J4
    have hP4 := (hP3.below J4).grow J4.size
    obtain ⟨t0', t1'⟩ := blk_2 (keep J4 T)
    go_wp2_with fail
    refine (sIn_xy _ n c l x y (by omega) _ hP4).mono ?_
    rintro e w5 ⟨rfl, J5⟩
    go_wp2_with fail
    go_ret
    exact ⟨rfl, bw_trans K4 J5⟩
  case true =>
    go_wp2_with fail
    refine (sOk_any _ n c l (by omega) _ hP3).mono ?_
    rw [hok]
    rintro e w4 ⟨rfl, J4⟩
    have K4 := bw_trans K3 J4
    have hP4 := (hP3.below J4).grow J4.size
    replace T := keep J4 T
    clear t0 t1 zT
    obtain ⟨t0, t1⟩ := blk_2 T
    have zT := blk_lt T
    cases hp : ptB x y
    case false =>
      go_wp2_with fail
      refine (sPt_any x y _).mono ?_
      rw [hp]
      rintro e w5 ⟨rfl, J5⟩
      have K5 := bw_trans K4 J5
      have hP5 := (hP4.below J5).grow J5.size
      obtain ⟨t0', t1'⟩ := blk_2 (keep J5 T)
      go_wp2_with fail
      refine (sIn_xy _ n c l x y (by omega) _ hP5).mono ?_
      rintro e w6 ⟨rfl, J6⟩
      go_wp2_with fail
      go_ret
      exact ⟨rfl, bw_trans K5 J6⟩
    case true =>
      go_wp2_with fail
      refine (sPt_any x y _).mono ?_
      rw [hp]
      rintro e w5 ⟨rfl, J5⟩
      have K5 := bw_trans K4 J5
      have hP5 := (hP4.below J5).grow J5.size
      replace T := keep J5 T
      clear t0 t1 zT
      obtain ⟨t0, t1⟩ := blk_2 T
      have zT := blk_lt T
      have hxy := (ptB_iff x y).1 hp
      clear J2 J3 J4 BW hP1 hPW hP2 hP3 hP4
      by_cases hu0 : inV l (x, y) = 0
      · have e0 : (inV l (x, y) == 0) = true := by simpa using hu0
        clear hu0
        go_wp2_with fail
        refine (sIn_xy _ n c l x y (by omega) _ hP5).mono ?_
        rintro e w6 ⟨rfl, J6⟩
        go_wp2_with fail
        go_ret
        exact ⟨rfl, bw_trans K5 J6⟩
      have e0 : (inV l (x, y) == 0) = false := by simpa using hu0
      have hub := inV_bd l (x, y)
      have hq : ptB ((len1 : Int) % 10) ((len1 : Int) / 3 % 10) = true := (ptB_iff _ _).2 (by omega)
      have BQ : Below w5.heap.size w5 (w5.alloc (.cells #[.int .i64 ((len1 : Int) % 10), .int .i64 ((len1 : Int) / 3 % 10)] 24)) := (by repeat (first | exact bw_refl _ | assumption | apply bw_drewN | apply bw_drew | apply bw_alloc | refine bw_set ?_ (by simp) _))
      have QB := heap_new w5 (.cells #[.int .i64 ((len1 : Int) % 10), .int .i64 ((len1 : Int) / 3 % 10)] 24)
      have HU0 : Hid (inV l (x, y) ≠ 0) := hu0
      clear hu0
      by_cases hneg : inV l ((len1 : Int) % 10, (len1 : Int) / 3 % 10) = - inV l (x, y)
      case neg =>
        have e1 : (inV l ((len1 : Int) % 10, (len1 : Int) / 3 % 10) == - inV l (x, y)) = false := by simpa using hneg
        have e2 : (inV l ((len1 : Int) % 10, (len1 : Int) / 3 % 10) != - inV l (x, y)) = true := by simpa using hneg
        clear hneg
        go_wp2_with fail
        refine (in_xy (some ⟨g, 0, none⟩) n c l ((len1 : Int) % 10) ((len1 : Int) / 3 % 10) (by omega) _ ((hP5.below BQ).grow BQ.size)).mono ?_
        rintro e w6 ⟨rfl, J6⟩
        go_wp2_with fail
        go_ret
        exact ⟨rfl, bw_trans (bw_trans K5 BQ) J6⟩
      case pos =>
      have e2 : (inV l ((len1 : Int) % 10, (len1 : Int) / 3 % 10) != - inV l (x, y)) = false := by simpa using hneg
      have hsq : sgP (x, y) ((len1 : Int) % 10, (len1 : Int) / 3 % 10) = true := sgP_mk hp hq (fun e => by rw [← e] at hneg; have := HU0.out; omega)
      have HN : Hid (inV l ((len1 : Int) % 10, (len1 : Int) / 3 % 10) = - inV l (x, y)) := hneg
      clear hneg
      go_wp2_with fail
      refine (in_xy (some ⟨g, 0, none⟩) n c l ((len1 : Int) % 10) ((len1 : Int) / 3 % 10) (by omega) _ ((hP5.below BQ).grow BQ.size)).mono ?_
      rintro e w6 ⟨rfl, J6⟩
      replace QB := keep J6 QB
      replace T := keep (bw_trans BQ J6) T
      have K6 := bw_trans (bw_trans K5 BQ) J6
      have hP6 := (hP5.below (bw_trans BQ J6)).grow (bw_trans BQ J6).size
      clear t0 t1 zT BQ J6 J5 J1
      go_wp2_with fail
      refine (loopEdges_any (some ⟨g, 0, none⟩) n c l (by omega) _ hP6).mono ?_
      rintro e w7 ⟨hE, J7⟩
      rcases hE with ⟨hno, _⟩ | ⟨_, ev, rfl, hown⟩
      · rw [hok] at hno; cases hno
      have hR : ∃ g' cap', ev = .slice (some ⟨g', 0, none⟩) n cap' ∧ g' < w7.heap.size ∧ SegRow w7 g' n l := by
        have hown' := hown
        rcases hown.2 with ⟨_, h0⟩ | ⟨g', cap', cur, rfl, hg1, hg2, _⟩
        · omega
        · exact ⟨g', cap', rfl, (Array.getElem?_eq_some_iff.1 hg2).1, SegRow.of_owns hown'⟩
      obtain ⟨g', cap', rfl, hg', hS⟩ := hR
      replace QB := keep J7 QB
      replace T := keep J7 T
      have K7 := bw_trans K6 J7
      have HL : Hid (l.length = n) := hl
      clear hown J7 hl
      go_wp2_with fail
      go_loopw [10] (fun i wr => ∃ k : Nat, k ≤ n ∧ i = .int .i64 k ∧ (∀ j, j < k → meetP (ptAt l j) (ptAt l (nxt l j)) (x, y) ((len1 : Int) % 10, (len1 : Int) / 3 % 10) = false) ∧ Below w7.heap.size w7 wr) (fun i _ => n - (intOf i).toNat)
      case atStart => exact ⟨0, Nat.zero_le _, rfl, fun j hj => by omega, bw_refl _⟩
      case round =>
        obtain ⟨k, hk, rfl, hall, hnx⟩ := hrel
        by_cases hlt : k < n
        · have i0 : (0 : Int) ≤ (k : Int) := Int.natCast_nonneg _
          have i1 : (k : Int) < (n : Int) := by omega
          have sk := okV_seg' hok (i := k) (by rw [HL.out]; exact hlt)
          obtain ⟨d0, d1, d2, d3⟩ := regrow4 ((hS.below hnx hg') k hlt)
          obtain ⟨u0, u1⟩ := reg_2 (keep hnx T)
          obtain ⟨u2, u3⟩ := reg_2 (keep hnx QB)
          cases hme : meetP (ptAt l k) (ptAt l (nxt l k)) (x, y) ((len1 : Int) % 10, (len1 : Int) / 3 % 10)
          · have X1 : Hid (∀ w, Calls Try.prog 30 #[.agg #[.int .i64 (ptAt l k).1, .int .i64 (ptAt l k).2, .int .i64 (ptAt l (nxt l k)).1, .int .i64 (ptAt l (nxt l k)).2], .agg #[.int .i64 x, .int .i64 y, .int .i64 ((len1 : Int) % 10), .int .i64 ((len1 : Int) / 3 % 10)]] w fun e w' => e = .returned (.bool false) ∧ Below w.heap.size w w') := fun w => by
              have := meet_raw (ptAt l k) (ptAt l (nxt l k)) (x, y) ((len1 : Int) % 10, (len1 : Int) / 3 % 10) w; rwa [meetQ_of sk hsq, hme] at this
            go_wp2_with fail
            refine wp_region_quiet_below (by kernel_rfl) (by kernel_rfl) ?_
            repeat (first | go_big_quiet_step (first | (go_at_call 30; with_reducible exact Calls.regrown_of (X1.out _))))
            refine wpQuiet_nil ?_
            intro _ hw'
            obtain ⟨⟨dq, osq⟩, hw''⟩ := hw'
            subst hw''
            have J := below_regrown wr dq osq
            generalize grow (redrawn wr dq) osq = w8 at J ⊢
            go_wp2_with fail
            go_roundw
            case rel => exact ⟨k + 1, by omega, by simp, fun j hj => by rcases Nat.lt_or_ge j k with h | h; exact hall j h; obtain rfl : j = k := (by omega); exact hme, bw_trans hnx J⟩
            case measure => simp [intOf]; omega
          · have X1 : Hid (∀ w, Calls Try.prog 30 #[.agg #[.int .i64 (ptAt l k).1, .int .i64 (ptAt l k).2, .int .i64 (ptAt l (nxt l k)).1, .int .i64 (ptAt l (nxt l k)).2], .agg #[.int .i64 x, .int .i64 y, .int .i64 ((len1 : Int) % 10), .int .i64 ((len1 : Int) / 3 % 10)]] w fun e w' => e = .returned (.bool true) ∧ Below w.heap.size w w') := fun w => by
              have := meet_raw (ptAt l k) (ptAt l (nxt l k)) (x, y) ((len1 : Int) % 10, (len1 : Int) / 3 % 10) w; rwa [meetQ_of sk hsq, hme] at this
            go_wp2_with fail
            refine wp_region_quiet_below (by kernel_rfl) (by kernel_rfl) ?_
            repeat (first | go_big_quiet_step (first | (go_at_call 30; with_reducible exact Calls.regrown_of (X1.out _))))
            refine wpQuiet_nil ?_
            intro _ hw'
            obtain ⟨⟨dq, osq⟩, hw''⟩ := hw'
            subst hw''
            have J := below_regrown wr dq osq
            generalize grow (redrawn wr dq) osq = w8 at J ⊢
            go_wp2_with fail
            go_ret
            exact ⟨rfl, bw_trans (bw_trans K7 hnx) J⟩
        · exfalso
          obtain rfl : k = n := by omega
          obtain ⟨hway, ho, _⟩ := inI_way (l := l) (p := (x, y)) (q := ((len1 : Int) % 10, (len1 : Int) / 3 % 10)) (fun i hi => hall i (by rw [HL.out] at hi; exact hi))
          have hu : inV l ((len1 : Int) % 10, (len1 : Int) / 3 % 10) = inV l (x, y) := by unfold inV; rw [hok]; simp only [hp, hq, Bool.and_self, if_true]; exact hway.symm
          have h1 := HN.out
          have h2 := HU0.out
          omega
end Go.Proofs.Ytempleochkohlaa
