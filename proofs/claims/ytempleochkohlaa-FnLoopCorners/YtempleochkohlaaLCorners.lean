/-
  OUR OWN TEXT. The law FnLoopCorners, walked: whatever bytes come in, it answers true and writes nothing that was there.
-/
import Derived.Test.YtempleochkohlaaDrawL
import Derived.Test.YtempleochkohlaaLExLoopIn
import Derived.Test.YtempleochkohlaaLEdges
import Derived.Deep.RegionHeld3
import Derived.Test.YtempleochkohlaaRoundQ
import Derived.Test.YtempleochkohlaaLuL
namespace Go.Proofs.Ytempleochkohlaa
open Go.RowKit Go.Sort

theorem blk_at' {W : World} {g c n j : Nat} {l : List P2} (h : PtBlk W g c l n) (hj : j < n) : W.cell? ⟨g, j * 2, none⟩ = some (.int .i64 (ptAt l j).1) ∧ W.cell? ⟨g, j * 2 + 1, none⟩ = some (.int .i64 (ptAt l j).2) := by
  obtain ⟨cur, h, _, hc⟩ := h
  rw [row_cell h, row_cell h]; exact hc j hj
theorem lies2' {b : Nat} {x y : Value} {t : TypeId} {W : World} (h : Lies b #[x, y] t W) : W.cell? ⟨b, 0, none⟩ = some x ∧ W.cell? ⟨b, 1, none⟩ = some y ∧ W.frozen? ⟨b, 0, none⟩ = false ∧ W.frozen? ⟨b, 1, none⟩ = false := by
  unfold Lies at h
  refine ⟨?_, ?_, ?_, ?_⟩ <;> simp [World.cell?, World.frozen?, h]
theorem loopCorners_long (w : World) (a0 : Option Addr) (len0 cap0 : Nat) (h : 1048576 < len0) :
    Calls Try.prog 9 #[.slice a0 len0 cap0] w fun e w' => e = .returned (.bool true) ∧ Below w.heap.size w w' := by
  go_enter Try.func9, Try.ntmps9
  go_wp2
  go_ret
  exact ⟨rfl, bw_refl _⟩
set_option maxRecDepth 100000 in
set_option maxHeartbeats 4000000 in
theorem loopCorners_walk (w : World) (a0 : Option Addr) (len0 cap0 : Nat) (z0 : List Int) (r0 : IsRow .u8 w a0 len0 cap0 z0) :
    Calls Try.prog 9 #[.slice a0 len0 cap0] w fun e w' => e = .returned (.bool true) ∧ Below w.heap.size w w' := by
  by_cases hl : 1048576 < len0
  · exact loopCorners_long w a0 len0 cap0 hl
  have hl0 : len0 ≤ 1048576 := by omega
  clear hl
  have hne : ∀ b : Int, (b != b) = false := by simp
  have heq : ∀ b : Int, (b == b) = true := by simp
  go_enter Try.func9, Try.ntmps9
  go_wp2_with fail
  refine (drawIn_any w _ r0 (bw_refl _)).mono ?_
  rintro e w1 ⟨vv, l, n, x, y, rfl, hPB, ⟨g, c, rfl, n3, n7, hl, hnc, hcm, hbg, hb⟩, J1⟩
  have hP1 := hb.pts' hl
  obtain ⟨W, hW, BW, T⟩ := boxes1' w1 (.cells #[.int .i64 x, .int .i64 y] 24)
  have hPW := (hP1.below BW).grow BW.size
  have KW := bw_trans J1 BW
  have K1W := BW
  obtain ⟨t0, t1⟩ := blk_2 T
  have zT := blk_lt T
  go_upto_region 4 with fail
  rw [← hW]
  clear hW
  go_wp2_with fail
  refine (in_xy _ n c l x y (by omega) _ hPW).mono ?_
  rintro e w2 ⟨rfl, J2⟩
  have K2 := bw_trans KW J2
  have hP2 := (hPW.below J2).grow J2.size
  replace T := keep J2 T
  clear t0 t1 zT
  obtain ⟨t0, t1⟩ := blk_2 T
  have zT := blk_lt T
  go_wp2_with fail
  refine (sIn_xy _ n c l x y (by omega) _ hP2).mono ?_
  rintro e w3 ⟨rfl, J3⟩
  have K3 := bw_trans K2 J3
  have hP3 := (hP2.below J3).grow J3.size
  replace T := keep J3 T
  clear t0 t1 zT
  obtain ⟨t0, t1⟩ := blk_2 T
  have zT := blk_lt T
  cases hok : okV l
  case false =>
    go_wp2_with fail
    refine (sOk_any _ n c l (by omega) _ hP3).mono ?_
    rw [hok]
    rintro e w4 ⟨rfl, J4⟩
    have K4 := bw_trans K3 J4
    have hP4 := (hP3.below J4).grow J4.size
    obtain ⟨t0', t1'⟩ := blk_2 (keep J4 T)
    go_wp2_with fail
    refine (sIn_xy _ n c l x y (by omega) _ hP4).mono ?_
    rintro e w5 ⟨rfl, J5⟩
    go_wp2_with fail
    go_ret
    exact ⟨rfl, bw_trans K4 J5⟩
  case true =>
    go_wp2_with fail
    refine (sOk_any _ n c l (by omega) _ hP3).mono ?_
    rw [hok]
    rintro e w4 ⟨rfl, J4⟩
    have K4 := bw_trans K3 J4
    have hP4 := (hP3.below J4).grow J4.size
    replace T := keep J4 T
    clear t0 t1 zT
    obtain ⟨t0, t1⟩ := blk_2 T
    have zT := blk_lt T
    cases hp : ptB x y
    case false =>
      go_wp2_with fail
      refine (sPt_any x y _).mono ?_
      rw [hp]
      rintro e w5 ⟨rfl, J5⟩
      have K5 := bw_trans K4 J5
      have hP5 := (hP4.below J5).grow J5.size
      obtain ⟨t0', t1'⟩ := blk_2 (keep J5 T)
      go_wp2_with fail
      refine (sIn_xy _ n c l x y (by omega) _ hP5).mono ?_
      rintro e w6 ⟨rfl, J6⟩
      go_wp2_with fail
      go_ret
      exact ⟨rfl, bw_trans K5 J6⟩
    case true =>
      go_wp2_with fail
      refine (sPt_any x y _).mono ?_
      rw [hp]
      rintro e w5 ⟨rfl, J5⟩
      have K5 := bw_trans K4 J5
      have K15 : Below w1.heap.size w1 w5 := bw_trans (bw_trans (bw_trans (bw_trans K1W J2) J3) J4) J5
      have hP5 := (hP4.below J5).grow J5.size
      replace T := keep J5 T
      clear t0 t1 zT
      obtain ⟨t0, t1⟩ := blk_2 T
      have zT := blk_lt T
      have HL : Hid (l.length = n) := hl
      replace hb := hb.below K15
      clear J2 J3 J4 hP1 hPW hP2 hP3 hP4 J5 hl
      obtain ⟨l0, l1⟩ := blk_at' hb (show 0 < n by omega)
      simp only [Nat.zero_mul, Nat.zero_add] at l0 l1
      have i1 : (0 : Int) < (n : Int) := by omega
      have zg := hb.lt
      have hmx : Try.prog.follows .mixedOrders = true := by kernel_rfl
      have hO : Hid (OkL l) := (okV_iff l).1 hok
      have Lo := (Lies.new w5 #[.int .i64 (ptAt l 0).1, .int .i64 (ptAt l 0).2] 24).alloc (.cells #[.int .i64 (ptAt l 0).1, .int .i64 (ptAt l 0).2] 24)
      have Hi := Lies.new' (w5.alloc (.cells #[.int .i64 (ptAt l 0).1, .int .i64 (ptAt l 0).2] 24)) (w5.heap.size + 1) (by simp) #[.int .i64 (ptAt l 0).1, .int .i64 (ptAt l 0).2] 24
      have B0 : Below w5.heap.size w5 ((w5.alloc (.cells #[.int .i64 (ptAt l 0).1, .int .i64 (ptAt l 0).2] 24)).alloc (.cells #[.int .i64 (ptAt l 0).1, .int .i64 (ptAt l 0).2] 24)) := (by repeat (first | exact bw_refl _ | assumption | apply bw_drewN | apply bw_drew | apply bw_alloc | refine bw_set ?_ (by simp) _))
      go_wp2_with fail
      go_loopw [8] (fun i wr => ∃ (k : Nat) (lx ly hx hy : Int), k ≤ n ∧ i = .int .i64 k ∧ Lies w5.heap.size #[.int .i64 lx, .int .i64 ly] 24 wr ∧ Lies (w5.heap.size + 1) #[.int .i64 hx, .int .i64 hy] 24 wr ∧ (∀ j, j < k → lx ≤ (ptAt l j).1 ∧ (ptAt l j).1 ≤ hx ∧ ly ≤ (ptAt l j).2 ∧ (ptAt l j).2 ≤ hy) ∧ Below w5.heap.size w5 wr) (fun i _ => n - (intOf i).toNat)
      case atStart => exact ⟨0, _, _, _, _, Nat.zero_le _, rfl, Lo, Hi, fun j hj => by omega, B0⟩
      case round =>
        obtain ⟨k, lx, ly, hx, hy, hk, rfl, Lo, Hi, hall, hnx⟩ := hrel
        have hb2 := hb.below hnx
        by_cases hlt : k < n
        case pos =>
          have j0 : (0 : Int) ≤ (k : Int) := Int.natCast_nonneg _
          have j1 : (k : Int) < (n : Int) := by omega
          have hon : Hid (inV l (ptAt l k) = 0) := by
            change _ = _
            have h1 := onL_corner (l := l) (i := k) (by rw [HL.out]; exact hlt)
            have h2 := (inI_zero l (ptAt l k)).2 h1
            have h3 := (sgP_pt (hO.out.seg k (by rw [HL.out]; exact hlt))).1
            unfold inV; rw [hok, h3]; exact h2
          have hstep : Hid (∀ j, j < k + 1 → (if (ptAt l k).1 < lx then (ptAt l k).1 else lx) ≤ (ptAt l j).1 ∧ (ptAt l j).1 ≤ (if hx < (ptAt l k).1 then (ptAt l k).1 else hx) ∧ (if (ptAt l k).2 < ly then (ptAt l k).2 else ly) ≤ (ptAt l j).2 ∧ (ptAt l j).2 ≤ (if hy < (ptAt l k).2 then (ptAt l k).2 else hy)) := fun j hj => by
            rcases Nat.lt_or_ge j k with h | h
            · have := hall j h
              refine ⟨?_, ?_, ?_, ?_⟩ <;> split <;> omega
            · obtain rfl : j = k := by omega
              refine ⟨?_, ?_, ?_, ?_⟩ <;> split <;> omega
          clear hall
          obtain ⟨e0, e1⟩ := blk_at' hb2 hlt
          have hcall := in_xy (some ⟨g, 0, none⟩) n c l (ptAt l k).1 (ptAt l k).2 (by omega) wr (hb2.pts' HL.out)
          have hv : inV l ((ptAt l k).1, (ptAt l k).2) = 0 := hon.out
          rw [hv] at hcall
          clear hv
          generalize (ptAt l k).1 = px at *
          generalize (ptAt l k).2 = py at *
          obtain ⟨mx, HX⟩ : ∃ q : Int, Hid ((if px < lx then px else lx) = q) := ⟨_, rfl⟩
          obtain ⟨my, HY⟩ : ∃ q : Int, Hid ((if py < ly then py else ly) = q) := ⟨_, rfl⟩
          obtain ⟨nx, GX⟩ : ∃ q : Int, Hid ((if hx < px then px else hx) = q) := ⟨_, rfl⟩
          obtain ⟨ny, GY⟩ : ∃ q : Int, Hid ((if hy < py then py else hy) = q) := ⟨_, rfl⟩
          rw [HX.out, HY.out, GX.out, GY.out] at hstep
          go_wp2_with (go_at_call 22; refine hcall.mono ?_; rintro e v1 ⟨rfl, J⟩)
          replace Lo := Lo.below J
          replace Hi := Hi.below J
          have hn1 := bw_trans hnx J
          replace e0 := (J.cell (p := ⟨g, k * 2, none⟩) hb2.lt).trans e0
          replace e1 := (J.cell (p := ⟨g, k * 2 + 1, none⟩) hb2.lt).trans e1
          obtain ⟨a0', a1', f0, f1⟩ := lies2' Lo
          obtain ⟨b0', b1', f2, f3⟩ := lies2' Hi
          have zv : w5.heap.size ≤ v1.heap.size := hn1.size
          clear hcall J hnx
          refine wp_region_held (S := (fun w' : World => w'.cell? ⟨g, k * 2, none⟩ = some (.int .i64 px) ∧ w'.cell? ⟨g, k * 2 + 1, none⟩ = some (.int .i64 py))) hmx ?_
          have hS1 : (fun w' : World => w'.cell? ⟨g, k * 2, none⟩ = some (.int .i64 px) ∧ w'.cell? ⟨g, k * 2 + 1, none⟩ = some (.int .i64 py)) v1.drew := ⟨e0, e1⟩
          refine wpAnyH_take (i := 0) (v := .pointer (some ⟨w5.heap.size, 0, none⟩)) rfl (by kernel_rfl) (by kernel_rfl) (by kernel_rfl) (fun _ _ _ h => h) (Or.inl ⟨by rfl, by rintro w' ⟨s1, s2⟩; go_simp⟩) hS1 ?_
          refine wpAnyH_take (i := 2) (v := .slice (some ⟨g, 0, none⟩) n c) rfl (by kernel_rfl) (by kernel_rfl) (by kernel_rfl) (fun _ _ _ h => h) (Or.inl ⟨by rfl, by rintro w' ⟨s1, s2⟩; go_simp⟩) hS1 ?_
          refine wpAnyH_take (i := 3) (v := .int .i64 (k : Int)) rfl (by kernel_rfl) (by kernel_rfl) (by kernel_rfl) (fun _ _ _ h => h) (Or.inl ⟨by rfl, by rintro w' ⟨s1, s2⟩; go_simp⟩) hS1 ?_
          refine wpAnyH_take (i := 4) (v := .pointer (some ⟨g, k * 2, none⟩)) rfl (by kernel_rfl) (by kernel_rfl) (by kernel_rfl) (fun _ _ _ h => h) (Or.inl ⟨by rfl, by rintro w' ⟨s1, s2⟩; go_simp⟩) hS1 ?_
          refine wpAnyH_take (i := 5) (v := .pointer (some ⟨g, k * 2, none⟩)) rfl (by kernel_rfl) (by kernel_rfl) (by kernel_rfl) (fun _ _ _ h => h) (Or.inl ⟨by rfl, by rintro w' ⟨s1, s2⟩; go_simp⟩) hS1 ?_
          refine wpAnyH_take (i := 6) (v := .int .i64 px) rfl (by kernel_rfl) (by kernel_rfl) (by kernel_rfl) (fun _ _ _ h => h) (Or.inl ⟨by rfl, by rintro w' ⟨s1, s2⟩; go_simp⟩) hS1 ?_
          refine wpAnyH_take (i := 8) (v := .pointer (some ⟨w5.heap.size, 1, none⟩)) rfl (by kernel_rfl) (by kernel_rfl) (by kernel_rfl) (fun _ _ _ h => h) (Or.inl ⟨by rfl, by rintro w' ⟨s1, s2⟩; go_simp⟩) hS1 ?_
          refine wpAnyH_take (i := 10) (v := .slice (some ⟨g, 0, none⟩) n c) rfl (by kernel_rfl) (by kernel_rfl) (by kernel_rfl) (fun _ _ _ h => h) (Or.inl ⟨by rfl, by rintro w' ⟨s1, s2⟩; go_simp⟩) hS1 ?_
          refine wpAnyH_take (i := 11) (v := .int .i64 (k : Int)) rfl (by kernel_rfl) (by kernel_rfl) (by kernel_rfl) (fun _ _ _ h => h) (Or.inl ⟨by rfl, by rintro w' ⟨s1, s2⟩; go_simp⟩) hS1 ?_
          refine wpAnyH_take (i := 12) (v := .pointer (some ⟨g, k * 2, none⟩)) rfl (by kernel_rfl) (by kernel_rfl) (by kernel_rfl) (fun _ _ _ h => h) (Or.inl ⟨by rfl, by rintro w' ⟨s1, s2⟩; go_simp⟩) hS1 ?_
          refine wpAnyH_take (i := 13) (v := .pointer (some ⟨g, k * 2 + 1, none⟩)) rfl (by kernel_rfl) (by kernel_rfl) (by kernel_rfl) (fun _ _ _ h => h) (Or.inl ⟨by rfl, by rintro w' ⟨s1, s2⟩; go_simp⟩) hS1 ?_
          refine wpAnyH_take (i := 14) (v := .int .i64 py) rfl (by kernel_rfl) (by kernel_rfl) (by kernel_rfl) (fun _ _ _ h => h) (Or.inl ⟨by rfl, by rintro w' ⟨s1, s2⟩; go_simp⟩) hS1 ?_
          refine wpAnyH_all (rs := [1, 9]) (by kernel_rfl) (by simp) ?_
          intro i hi
          have hi' : i = 1 ∨ i = 9 := by simpa using hi
          rcases hi' with rfl | rfl
          · refine YieldsIf.wpOp (S := fun w' => w' = v1.drew) (v := .int .i64 lx) rfl (Or.inl ⟨by rfl, by rintro w' rfl; go_simp⟩) rfl ⟨hS1, ?_⟩
            refine wpAnyH_take (i := 7) (v := .int .i64 mx) rfl (by kernel_rfl) (by kernel_rfl) (by kernel_rfl) (fun _ _ _ h => h) (Or.inl ⟨by rfl, by rintro w' ⟨s1, s2⟩; rw [← HX.out]; go_simp⟩) hS1 ?_
            refine wpAnyH_all (rs := [9]) (by kernel_rfl) (by simp) ?_
            intro i hi
            obtain rfl : i = 9 := by simpa using hi
            refine YieldsIf.wpOp (S := fun w' => w' = v1.drew) (v := .int .i64 ly) rfl (Or.inl ⟨by rfl, by rintro w' rfl; go_simp⟩) rfl ⟨hS1, ?_⟩
            refine wpAnyH_take (i := 15) (v := .int .i64 my) rfl (by kernel_rfl) (by kernel_rfl) (by kernel_rfl) (fun _ _ _ h => h) (Or.inl ⟨by rfl, by rintro w' ⟨s1, s2⟩; rw [← HY.out]; go_simp⟩) hS1 ?_
            refine wpAnyH_take (i := 16) (v := .agg #[.int .i64 mx, .int .i64 my]) rfl (by kernel_rfl) (by kernel_rfl) (by kernel_rfl) (fun _ _ _ h => h) (Or.inl ⟨by rfl, by rintro w' ⟨s1, s2⟩; go_simp⟩) hS1 ?_
            refine wpAnyH_all (rs := [17]) (by kernel_rfl) (by simp) ?_
            intro i hi
            obtain rfl : i = 17 := by simpa using hi
            refine wpOp_now rfl (by rfl) ?_
            go_simp
            refine wpAnyH_done (by kernel_rfl) ?_ _
            try simp only [Exit.then]
            have LoN : Lies (w5.heap.size) #[.int .i64 mx, .int .i64 my] 24 (((v1.setCell ⟨w5.heap.size, 0, none⟩ (.int .i64 mx)).setCell ⟨w5.heap.size, 1, none⟩ (.int .i64 my)).drew) := setB2 Lo
            have HiN : Lies (w5.heap.size + 1) #[.int .i64 hx, .int .i64 hy] 24 (((v1.setCell ⟨w5.heap.size, 0, none⟩ (.int .i64 mx)).setCell ⟨w5.heap.size, 1, none⟩ (.int .i64 my)).drew) := set_oth (set_oth Hi (by omega)) (by omega)
            have hN : Below w5.heap.size w5 (((v1.setCell ⟨w5.heap.size, 0, none⟩ (.int .i64 mx)).setCell ⟨w5.heap.size, 1, none⟩ (.int .i64 my)).drew) := (bw_set (bw_set hn1 (by simp) _) (by simp) _).drew
            have e0N : (((v1.setCell ⟨w5.heap.size, 0, none⟩ (.int .i64 mx)).setCell ⟨w5.heap.size, 1, none⟩ (.int .i64 my)).drew).cell? ⟨g, k * 2, none⟩ = some (.int .i64 px) := cellS e0 (by omega)
            have e1N : (((v1.setCell ⟨w5.heap.size, 0, none⟩ (.int .i64 mx)).setCell ⟨w5.heap.size, 1, none⟩ (.int .i64 my)).drew).cell? ⟨g, k * 2 + 1, none⟩ = some (.int .i64 py) := cellS e1 (by omega)
            generalize ((v1.setCell ⟨w5.heap.size, 0, none⟩ (.int .i64 mx)).setCell ⟨w5.heap.size, 1, none⟩ (.int .i64 my)).drew = v2 at LoN HiN hN e0N e1N ⊢
            obtain ⟨a0', a1', f0, f1⟩ := lies2' LoN
            obtain ⟨b0', b1', f2, f3⟩ := lies2' HiN
            clear Lo Hi hn1 hS1
            go_wp2_with fail
            refine wp_region_held (S := (fun w' : World => w'.cell? ⟨g, k * 2, none⟩ = some (.int .i64 px) ∧ w'.cell? ⟨g, k * 2 + 1, none⟩ = some (.int .i64 py))) hmx ?_
            have hS2 : (fun w' : World => w'.cell? ⟨g, k * 2, none⟩ = some (.int .i64 px) ∧ w'.cell? ⟨g, k * 2 + 1, none⟩ = some (.int .i64 py)) v2.drew := ⟨e0N, e1N⟩
            refine wpAnyH_take (i := 0) (v := .pointer (some ⟨w5.heap.size + 1, 0, none⟩)) rfl (by kernel_rfl) (by kernel_rfl) (by kernel_rfl) (fun _ _ _ h => h) (Or.inl ⟨by rfl, by rintro w' ⟨s1, s2⟩; go_simp⟩) hS2 ?_
            refine wpAnyH_take (i := 2) (v := .slice (some ⟨g, 0, none⟩) n c) rfl (by kernel_rfl) (by kernel_rfl) (by kernel_rfl) (fun _ _ _ h => h) (Or.inl ⟨by rfl, by rintro w' ⟨s1, s2⟩; go_simp⟩) hS2 ?_
            refine wpAnyH_take (i := 3) (v := .int .i64 (k : Int)) rfl (by kernel_rfl) (by kernel_rfl) (by kernel_rfl) (fun _ _ _ h => h) (Or.inl ⟨by rfl, by rintro w' ⟨s1, s2⟩; go_simp⟩) hS2 ?_
            refine wpAnyH_take (i := 4) (v := .pointer (some ⟨g, k * 2, none⟩)) rfl (by kernel_rfl) (by kernel_rfl) (by kernel_rfl) (fun _ _ _ h => h) (Or.inl ⟨by rfl, by rintro w' ⟨s1, s2⟩; go_simp⟩) hS2 ?_
            refine wpAnyH_take (i := 5) (v := .pointer (some ⟨g, k * 2, none⟩)) rfl (by kernel_rfl) (by kernel_rfl) (by kernel_rfl) (fun _ _ _ h => h) (Or.inl ⟨by rfl, by rintro w' ⟨s1, s2⟩; go_simp⟩) hS2 ?_
            refine wpAnyH_take (i := 6) (v := .int .i64 px) rfl (by kernel_rfl) (by kernel_rfl) (by kernel_rfl) (fun _ _ _ h => h) (Or.inl ⟨by rfl, by rintro w' ⟨s1, s2⟩; go_simp⟩) hS2 ?_
            refine wpAnyH_take (i := 8) (v := .pointer (some ⟨w5.heap.size + 1, 1, none⟩)) rfl (by kernel_rfl) (by kernel_rfl) (by kernel_rfl) (fun _ _ _ h => h) (Or.inl ⟨by rfl, by rintro w' ⟨s1, s2⟩; go_simp⟩) hS2 ?_
            refine wpAnyH_take (i := 10) (v := .slice (some ⟨g, 0, none⟩) n c) rfl (by kernel_rfl) (by kernel_rfl) (by kernel_rfl) (fun _ _ _ h => h) (Or.inl ⟨by rfl, by rintro w' ⟨s1, s2⟩; go_simp⟩) hS2 ?_
            refine wpAnyH_take (i := 11) (v := .int .i64 (k : Int)) rfl (by kernel_rfl) (by kernel_rfl) (by kernel_rfl) (fun _ _ _ h => h) (Or.inl ⟨by rfl, by rintro w' ⟨s1, s2⟩; go_simp⟩) hS2 ?_
            refine wpAnyH_take (i := 12) (v := .pointer (some ⟨g, k * 2, none⟩)) rfl (by kernel_rfl) (by kernel_rfl) (by kernel_rfl) (fun _ _ _ h => h) (Or.inl ⟨by rfl, by rintro w' ⟨s1, s2⟩; go_simp⟩) hS2 ?_
            refine wpAnyH_take (i := 13) (v := .pointer (some ⟨g, k * 2 + 1, none⟩)) rfl (by kernel_rfl) (by kernel_rfl) (by kernel_rfl) (fun _ _ _ h => h) (Or.inl ⟨by rfl, by rintro w' ⟨s1, s2⟩; go_simp⟩) hS2 ?_
            refine wpAnyH_take (i := 14) (v := .int .i64 py) rfl (by kernel_rfl) (by kernel_rfl) (by kernel_rfl) (fun _ _ _ h => h) (Or.inl ⟨by rfl, by rintro w' ⟨s1, s2⟩; go_simp⟩) hS2 ?_
            refine wpAnyH_all (rs := [1, 9]) (by kernel_rfl) (by simp) ?_
            intro i hi
            have hi' : i = 1 ∨ i = 9 := by simpa using hi
            rcases hi' with rfl | rfl
            · refine YieldsIf.wpOp (S := fun w' => w' = v2.drew) (v := .int .i64 hx) rfl (Or.inl ⟨by rfl, by rintro w' rfl; go_simp⟩) rfl ⟨hS2, ?_⟩
              refine wpAnyH_take (i := 7) (v := .int .i64 nx) rfl (by kernel_rfl) (by kernel_rfl) (by kernel_rfl) (fun _ _ _ h => h) (Or.inl ⟨by rfl, by rintro w' ⟨s1, s2⟩; rw [← GX.out]; go_simp⟩) hS2 ?_
              refine wpAnyH_all (rs := [9]) (by kernel_rfl) (by simp) ?_
              intro i hi
              obtain rfl : i = 9 := by simpa using hi
              refine YieldsIf.wpOp (S := fun w' => w' = v2.drew) (v := .int .i64 hy) rfl (Or.inl ⟨by rfl, by rintro w' rfl; go_simp⟩) rfl ⟨hS2, ?_⟩
              refine wpAnyH_take (i := 15) (v := .int .i64 ny) rfl (by kernel_rfl) (by kernel_rfl) (by kernel_rfl) (fun _ _ _ h => h) (Or.inl ⟨by rfl, by rintro w' ⟨s1, s2⟩; rw [← GY.out]; go_simp⟩) hS2 ?_
              refine wpAnyH_take (i := 16) (v := .agg #[.int .i64 nx, .int .i64 ny]) rfl (by kernel_rfl) (by kernel_rfl) (by kernel_rfl) (fun _ _ _ h => h) (Or.inl ⟨by rfl, by rintro w' ⟨s1, s2⟩; go_simp⟩) hS2 ?_
              refine wpAnyH_all (rs := [17]) (by kernel_rfl) (by simp) ?_
              intro i hi
              obtain rfl : i = 17 := by simpa using hi
              refine wpOp_now rfl (by rfl) ?_
              go_simp
              refine wpAnyH_done (by kernel_rfl) ?_ _
              try simp only [Exit.inBlock, Exit.then]
              have HiM : Lies (w5.heap.size + 1) #[.int .i64 nx, .int .i64 ny] 24 (((v2.setCell ⟨w5.heap.size + 1, 0, none⟩ (.int .i64 nx)).setCell ⟨w5.heap.size + 1, 1, none⟩ (.int .i64 ny)).drew) := setB2 HiN
              have LoM : Lies (w5.heap.size) #[.int .i64 mx, .int .i64 my] 24 (((v2.setCell ⟨w5.heap.size + 1, 0, none⟩ (.int .i64 nx)).setCell ⟨w5.heap.size + 1, 1, none⟩ (.int .i64 ny)).drew) := set_oth (set_oth LoN (by omega)) (by omega)
              have hM : Below w5.heap.size w5 (((v2.setCell ⟨w5.heap.size + 1, 0, none⟩ (.int .i64 nx)).setCell ⟨w5.heap.size + 1, 1, none⟩ (.int .i64 ny)).drew) := (bw_set (bw_set hN (by simp) _) (by simp) _).drew
              generalize ((v2.setCell ⟨w5.heap.size + 1, 0, none⟩ (.int .i64 nx)).setCell ⟨w5.heap.size + 1, 1, none⟩ (.int .i64 ny)).drew = v3 at HiM LoM hM ⊢
              go_wp2_with fail
              go_roundw
              case rel => exact ⟨k + 1, _, _, _, _, by omega, by simp, LoM, HiM, hstep.out, hM⟩
              case measure => simp [intOf]; omega
            · refine YieldsIf.wpOp (S := fun w' => w' = v2.drew) (v := .int .i64 hy) rfl (Or.inl ⟨by rfl, by rintro w' rfl; go_simp⟩) rfl ⟨hS2, ?_⟩
              refine wpAnyH_take (i := 15) (v := .int .i64 ny) rfl (by kernel_rfl) (by kernel_rfl) (by kernel_rfl) (fun _ _ _ h => h) (Or.inl ⟨by rfl, by rintro w' ⟨s1, s2⟩; rw [← GY.out]; go_simp⟩) hS2 ?_
              refine wpAnyH_all (rs := [1]) (by kernel_rfl) (by simp) ?_
              intro i hi
              obtain rfl : i = 1 := by simpa using hi
              refine YieldsIf.wpOp (S := fun w' => w' = v2.drew) (v := .int .i64 hx) rfl (Or.inl ⟨by rfl, by rintro w' rfl; go_simp⟩) rfl ⟨hS2, ?_⟩
              refine wpAnyH_take (i := 7) (v := .int .i64 nx) rfl (by kernel_rfl) (by kernel_rfl) (by kernel_rfl) (fun _ _ _ h => h) (Or.inl ⟨by rfl, by rintro w' ⟨s1, s2⟩; rw [← GX.out]; go_simp⟩) hS2 ?_
              refine wpAnyH_take (i := 16) (v := .agg #[.int .i64 nx, .int .i64 ny]) rfl (by kernel_rfl) (by kernel_rfl) (by kernel_rfl) (fun _ _ _ h => h) (Or.inl ⟨by rfl, by rintro w' ⟨s1, s2⟩; go_simp⟩) hS2 ?_
              refine wpAnyH_all (rs := [17]) (by kernel_rfl) (by simp) ?_
              intro i hi
              obtain rfl : i = 17 := by simpa using hi
              refine wpOp_now rfl (by rfl) ?_
              go_simp
              refine wpAnyH_done (by kernel_rfl) ?_ _
              try simp only [Exit.inBlock, Exit.then]
              have HiM : Lies (w5.heap.size + 1) #[.int .i64 nx, .int .i64 ny] 24 (((v2.setCell ⟨w5.heap.size + 1, 0, none⟩ (.int .i64 nx)).setCell ⟨w5.heap.size + 1, 1, none⟩ (.int .i64 ny)).drew) := setB2 HiN
              have LoM : Lies (w5.heap.size) #[.int .i64 mx, .int .i64 my] 24 (((v2.setCell ⟨w5.heap.size + 1, 0, none⟩ (.int .i64 nx)).setCell ⟨w5.heap.size + 1, 1, none⟩ (.int .i64 ny)).drew) := set_oth (set_oth LoN (by omega)) (by omega)
              have hM : Below w5.heap.size w5 (((v2.setCell ⟨w5.heap.size + 1, 0, none⟩ (.int .i64 nx)).setCell ⟨w5.heap.size + 1, 1, none⟩ (.int .i64 ny)).drew) := (bw_set (bw_set hN (by simp) _) (by simp) _).drew
              generalize ((v2.setCell ⟨w5.heap.size + 1, 0, none⟩ (.int .i64 nx)).setCell ⟨w5.heap.size + 1, 1, none⟩ (.int .i64 ny)).drew = v3 at HiM LoM hM ⊢
              go_wp2_with fail
              go_roundw
              case rel => exact ⟨k + 1, _, _, _, _, by omega, by simp, LoM, HiM, hstep.out, hM⟩
              case measure => simp [intOf]; omega
          · refine YieldsIf.wpOp (S := fun w' => w' = v1.drew) (v := .int .i64 ly) rfl (Or.inl ⟨by rfl, by rintro w' rfl; go_simp⟩) rfl ⟨hS1, ?_⟩
            refine wpAnyH_take (i := 15) (v := .int .i64 my) rfl (by kernel_rfl) (by kernel_rfl) (by kernel_rfl) (fun _ _ _ h => h) (Or.inl ⟨by rfl, by rintro w' ⟨s1, s2⟩; rw [← HY.out]; go_simp⟩) hS1 ?_
            refine wpAnyH_all (rs := [1]) (by kernel_rfl) (by simp) ?_
            intro i hi
            obtain rfl : i = 1 := by simpa using hi
            refine YieldsIf.wpOp (S := fun w' => w' = v1.drew) (v := .int .i64 lx) rfl (Or.inl ⟨by rfl, by rintro w' rfl; go_simp⟩) rfl ⟨hS1, ?_⟩
            refine wpAnyH_take (i := 7) (v := .int .i64 mx) rfl (by kernel_rfl) (by kernel_rfl) (by kernel_rfl) (fun _ _ _ h => h) (Or.inl ⟨by rfl, by rintro w' ⟨s1, s2⟩; rw [← HX.out]; go_simp⟩) hS1 ?_
            refine wpAnyH_take (i := 16) (v := .agg #[.int .i64 mx, .int .i64 my]) rfl (by kernel_rfl) (by kernel_rfl) (by kernel_rfl) (fun _ _ _ h => h) (Or.inl ⟨by rfl, by rintro w' ⟨s1, s2⟩; go_simp⟩) hS1 ?_
            refine wpAnyH_all (rs := [17]) (by kernel_rfl) (by simp) ?_
            intro i hi
            obtain rfl : i = 17 := by simpa using hi
            refine wpOp_now rfl (by rfl) ?_
            go_simp
            refine wpAnyH_done (by kernel_rfl) ?_ _
            try simp only [Exit.then]
            have LoN : Lies (w5.heap.size) #[.int .i64 mx, .int .i64 my] 24 (((v1.setCell ⟨w5.heap.size, 0, none⟩ (.int .i64 mx)).setCell ⟨w5.heap.size, 1, none⟩ (.int .i64 my)).drew) := setB2 Lo
            have HiN : Lies (w5.heap.size + 1) #[.int .i64 hx, .int .i64 hy] 24 (((v1.setCell ⟨w5.heap.size, 0, none⟩ (.int .i64 mx)).setCell ⟨w5.heap.size, 1, none⟩ (.int .i64 my)).drew) := set_oth (set_oth Hi (by omega)) (by omega)
            have hN : Below w5.heap.size w5 (((v1.setCell ⟨w5.heap.size, 0, none⟩ (.int .i64 mx)).setCell ⟨w5.heap.size, 1, none⟩ (.int .i64 my)).drew) := (bw_set (bw_set hn1 (by simp) _) (by simp) _).drew
            have e0N : (((v1.setCell ⟨w5.heap.size, 0, none⟩ (.int .i64 mx)).setCell ⟨w5.heap.size, 1, none⟩ (.int .i64 my)).drew).cell? ⟨g, k * 2, none⟩ = some (.int .i64 px) := cellS e0 (by omega)
            have e1N : (((v1.setCell ⟨w5.heap.size, 0, none⟩ (.int .i64 mx)).setCell ⟨w5.heap.size, 1, none⟩ (.int .i64 my)).drew).cell? ⟨g, k * 2 + 1, none⟩ = some (.int .i64 py) := cellS e1 (by omega)
            generalize ((v1.setCell ⟨w5.heap.size, 0, none⟩ (.int .i64 mx)).setCell ⟨w5.heap.size, 1, none⟩ (.int .i64 my)).drew = v2 at LoN HiN hN e0N e1N ⊢
            obtain ⟨a0', a1', f0, f1⟩ := lies2' LoN
            obtain ⟨b0', b1', f2, f3⟩ := lies2' HiN
            clear Lo Hi hn1 hS1
            go_wp2_with fail
            refine wp_region_held (S := (fun w' : World => w'.cell? ⟨g, k * 2, none⟩ = some (.int .i64 px) ∧ w'.cell? ⟨g, k * 2 + 1, none⟩ = some (.int .i64 py))) hmx ?_
            have hS2 : (fun w' : World => w'.cell? ⟨g, k * 2, none⟩ = some (.int .i64 px) ∧ w'.cell? ⟨g, k * 2 + 1, none⟩ = some (.int .i64 py)) v2.drew := ⟨e0N, e1N⟩
            refine wpAnyH_take (i := 0) (v := .pointer (some ⟨w5.heap.size + 1, 0, none⟩)) rfl (by kernel_rfl) (by kernel_rfl) (by kernel_rfl) (fun _ _ _ h => h) (Or.inl ⟨by rfl, by rintro w' ⟨s1, s2⟩; go_simp⟩) hS2 ?_
            refine wpAnyH_take (i := 2) (v := .slice (some ⟨g, 0, none⟩) n c) rfl (by kernel_rfl) (by kernel_rfl) (by kernel_rfl) (fun _ _ _ h => h) (Or.inl ⟨by rfl, by rintro w' ⟨s1, s2⟩; go_simp⟩) hS2 ?_
            refine wpAnyH_take (i := 3) (v := .int .i64 (k : Int)) rfl (by kernel_rfl) (by kernel_rfl) (by kernel_rfl) (fun _ _ _ h => h) (Or.inl ⟨by rfl, by rintro w' ⟨s1, s2⟩; go_simp⟩) hS2 ?_
            refine wpAnyH_take (i := 4) (v := .pointer (some ⟨g, k * 2, none⟩)) rfl (by kernel_rfl) (by kernel_rfl) (by kernel_rfl) (fun _ _ _ h => h) (Or.inl ⟨by rfl, by rintro w' ⟨s1, s2⟩; go_simp⟩) hS2 ?_
            refine wpAnyH_take (i := 5) (v := .pointer (some ⟨g, k * 2, none⟩)) rfl (by kernel_rfl) (by kernel_rfl) (by kernel_rfl) (fun _ _ _ h => h) (Or.inl ⟨by rfl, by rintro w' ⟨s1, s2⟩; go_simp⟩) hS2 ?_
            refine wpAnyH_take (i := 6) (v := .int .i64 px) rfl (by kernel_rfl) (by kernel_rfl) (by kernel_rfl) (fun _ _ _ h => h) (Or.inl ⟨by rfl, by rintro w' ⟨s1, s2⟩; go_simp⟩) hS2 ?_
            refine wpAnyH_take (i := 8) (v := .pointer (some ⟨w5.heap.size + 1, 1, none⟩)) rfl (by kernel_rfl) (by kernel_rfl) (by kernel_rfl) (fun _ _ _ h => h) (Or.inl ⟨by rfl, by rintro w' ⟨s1, s2⟩; go_simp⟩) hS2 ?_
            refine wpAnyH_take (i := 10) (v := .slice (some ⟨g, 0, none⟩) n c) rfl (by kernel_rfl) (by kernel_rfl) (by kernel_rfl) (fun _ _ _ h => h) (Or.inl ⟨by rfl, by rintro w' ⟨s1, s2⟩; go_simp⟩) hS2 ?_
            refine wpAnyH_take (i := 11) (v := .int .i64 (k : Int)) rfl (by kernel_rfl) (by kernel_rfl) (by kernel_rfl) (fun _ _ _ h => h) (Or.inl ⟨by rfl, by rintro w' ⟨s1, s2⟩; go_simp⟩) hS2 ?_
            refine wpAnyH_take (i := 12) (v := .pointer (some ⟨g, k * 2, none⟩)) rfl (by kernel_rfl) (by kernel_rfl) (by kernel_rfl) (fun _ _ _ h => h) (Or.inl ⟨by rfl, by rintro w' ⟨s1, s2⟩; go_simp⟩) hS2 ?_
            refine wpAnyH_take (i := 13) (v := .pointer (some ⟨g, k * 2 + 1, none⟩)) rfl (by kernel_rfl) (by kernel_rfl) (by kernel_rfl) (fun _ _ _ h => h) (Or.inl ⟨by rfl, by rintro w' ⟨s1, s2⟩; go_simp⟩) hS2 ?_
            refine wpAnyH_take (i := 14) (v := .int .i64 py) rfl (by kernel_rfl) (by kernel_rfl) (by kernel_rfl) (fun _ _ _ h => h) (Or.inl ⟨by rfl, by rintro w' ⟨s1, s2⟩; go_simp⟩) hS2 ?_
            refine wpAnyH_all (rs := [1, 9]) (by kernel_rfl) (by simp) ?_
            intro i hi
            have hi' : i = 1 ∨ i = 9 := by simpa using hi
            rcases hi' with rfl | rfl
            · refine YieldsIf.wpOp (S := fun w' => w' = v2.drew) (v := .int .i64 hx) rfl (Or.inl ⟨by rfl, by rintro w' rfl; go_simp⟩) rfl ⟨hS2, ?_⟩
              refine wpAnyH_take (i := 7) (v := .int .i64 nx) rfl (by kernel_rfl) (by kernel_rfl) (by kernel_rfl) (fun _ _ _ h => h) (Or.inl ⟨by rfl, by rintro w' ⟨s1, s2⟩; rw [← GX.out]; go_simp⟩) hS2 ?_
              refine wpAnyH_all (rs := [9]) (by kernel_rfl) (by simp) ?_
              intro i hi
              obtain rfl : i = 9 := by simpa using hi
              refine YieldsIf.wpOp (S := fun w' => w' = v2.drew) (v := .int .i64 hy) rfl (Or.inl ⟨by rfl, by rintro w' rfl; go_simp⟩) rfl ⟨hS2, ?_⟩
              refine wpAnyH_take (i := 15) (v := .int .i64 ny) rfl (by kernel_rfl) (by kernel_rfl) (by kernel_rfl) (fun _ _ _ h => h) (Or.inl ⟨by rfl, by rintro w' ⟨s1, s2⟩; rw [← GY.out]; go_simp⟩) hS2 ?_
              refine wpAnyH_take (i := 16) (v := .agg #[.int .i64 nx, .int .i64 ny]) rfl (by kernel_rfl) (by kernel_rfl) (by kernel_rfl) (fun _ _ _ h => h) (Or.inl ⟨by rfl, by rintro w' ⟨s1, s2⟩; go_simp⟩) hS2 ?_
              refine wpAnyH_all (rs := [17]) (by kernel_rfl) (by simp) ?_
              intro i hi
              obtain rfl : i = 17 := by simpa using hi
              refine wpOp_now rfl (by rfl) ?_
              go_simp
              refine wpAnyH_done (by kernel_rfl) ?_ _
              try simp only [Exit.inBlock, Exit.then]
              have HiM : Lies (w5.heap.size + 1) #[.int .i64 nx, .int .i64 ny] 24 (((v2.setCell ⟨w5.heap.size + 1, 0, none⟩ (.int .i64 nx)).setCell ⟨w5.heap.size + 1, 1, none⟩ (.int .i64 ny)).drew) := setB2 HiN
              have LoM : Lies (w5.heap.size) #[.int .i64 mx, .int .i64 my] 24 (((v2.setCell ⟨w5.heap.size + 1, 0, none⟩ (.int .i64 nx)).setCell ⟨w5.heap.size + 1, 1, none⟩ (.int .i64 ny)).drew) := set_oth (set_oth LoN (by omega)) (by omega)
              have hM : Below w5.heap.size w5 (((v2.setCell ⟨w5.heap.size + 1, 0, none⟩ (.int .i64 nx)).setCell ⟨w5.heap.size + 1, 1, none⟩ (.int .i64 ny)).drew) := (bw_set (bw_set hN (by simp) _) (by simp) _).drew
              generalize ((v2.setCell ⟨w5.heap.size + 1, 0, none⟩ (.int .i64 nx)).setCell ⟨w5.heap.size + 1, 1, none⟩ (.int .i64 ny)).drew = v3 at HiM LoM hM ⊢
              go_wp2_with fail
              go_roundw
              case rel => exact ⟨k + 1, _, _, _, _, by omega, by simp, LoM, HiM, hstep.out, hM⟩
              case measure => simp [intOf]; omega
            · refine YieldsIf.wpOp (S := fun w' => w' = v2.drew) (v := .int .i64 hy) rfl (Or.inl ⟨by rfl, by rintro w' rfl; go_simp⟩) rfl ⟨hS2, ?_⟩
              refine wpAnyH_take (i := 15) (v := .int .i64 ny) rfl (by kernel_rfl) (by kernel_rfl) (by kernel_rfl) (fun _ _ _ h => h) (Or.inl ⟨by rfl, by rintro w' ⟨s1, s2⟩; rw [← GY.out]; go_simp⟩) hS2 ?_
              refine wpAnyH_all (rs := [1]) (by kernel_rfl) (by simp) ?_
              intro i hi
              obtain rfl : i = 1 := by simpa using hi
              refine YieldsIf.wpOp (S := fun w' => w' = v2.drew) (v := .int .i64 hx) rfl (Or.inl ⟨by rfl, by rintro w' rfl; go_simp⟩) rfl ⟨hS2, ?_⟩
              refine wpAnyH_take (i := 7) (v := .int .i64 nx) rfl (by kernel_rfl) (by kernel_rfl) (by kernel_rfl) (fun _ _ _ h => h) (Or.inl ⟨by rfl, by rintro w' ⟨s1, s2⟩; rw [← GX.out]; go_simp⟩) hS2 ?_
              refine wpAnyH_take (i := 16) (v := .agg #[.int .i64 nx, .int .i64 ny]) rfl (by kernel_rfl) (by kernel_rfl) (by kernel_rfl) (fun _ _ _ h => h) (Or.inl ⟨by rfl, by rintro w' ⟨s1, s2⟩; go_simp⟩) hS2 ?_
              refine wpAnyH_all (rs := [17]) (by kernel_rfl) (by simp) ?_
              intro i hi
              obtain rfl : i = 17 := by simpa using hi
              refine wpOp_now rfl (by rfl) ?_
              go_simp
              refine wpAnyH_done (by kernel_rfl) ?_ _
              try simp only [Exit.inBlock, Exit.then]
              have HiM : Lies (w5.heap.size + 1) #[.int .i64 nx, .int .i64 ny] 24 (((v2.setCell ⟨w5.heap.size + 1, 0, none⟩ (.int .i64 nx)).setCell ⟨w5.heap.size + 1, 1, none⟩ (.int .i64 ny)).drew) := setB2 HiN
              have LoM : Lies (w5.heap.size) #[.int .i64 mx, .int .i64 my] 24 (((v2.setCell ⟨w5.heap.size + 1, 0, none⟩ (.int .i64 nx)).setCell ⟨w5.heap.size + 1, 1, none⟩ (.int .i64 ny)).drew) := set_oth (set_oth LoN (by omega)) (by omega)
              have hM : Below w5.heap.size w5 (((v2.setCell ⟨w5.heap.size + 1, 0, none⟩ (.int .i64 nx)).setCell ⟨w5.heap.size + 1, 1, none⟩ (.int .i64 ny)).drew) := (bw_set (bw_set hN (by simp) _) (by simp) _).drew
              generalize ((v2.setCell ⟨w5.heap.size + 1, 0, none⟩ (.int .i64 nx)).setCell ⟨w5.heap.size + 1, 1, none⟩ (.int .i64 ny)).drew = v3 at HiM LoM hM ⊢
              go_wp2_with fail
              go_roundw
              case rel => exact ⟨k + 1, _, _, _, _, by omega, by simp, LoM, HiM, hstep.out, hM⟩
              case measure => simp [intOf]; omega
        case neg =>
          obtain rfl : k = n := by omega
          obtain ⟨t0', t1'⟩ := blk_2 (keep hnx T)
          obtain ⟨a0', a1', f0, f1⟩ := lies2' Lo
          obtain ⟨b0', b1', f2, f3⟩ := lies2' Hi
          have K9 := bw_trans K5 hnx
          have hfin : x < lx ∨ hx < x ∨ y < ly ∨ hy < y → inV l (x, y) = -1 := by
            intro hbd
            have hall' : ∀ i, i < l.length → lx ≤ (ptAt l i).1 ∧ (ptAt l i).1 ≤ hx ∧ ly ≤ (ptAt l i).2 ∧ (ptAt l i).2 ≤ hy := fun i hi => hall i (by rw [HL.out] at hi; exact hi)
            have h1 : inI l (x, y) = -1 := by
              refine inI_beyond ?_
              rcases hbd with h | h | h | h
              · exact .inl fun i hi => by have := hall' i hi; show x < _; omega
              · exact .inr (.inl fun i hi => by have := hall' i hi; show _ < x; omega)
              · exact .inr (.inr (.inl fun i hi => by have := hall' i hi; show y < _; omega))
              · exact .inr (.inr (.inr fun i hi => by have := hall' i hi; show _ < y; omega))
            unfold inV; rw [hok]; show (if (true && ptB x y) = true then _ else _) = _; rw [hp, h1]; rfl
          clear hall hO HL
          by_cases c1 : x < lx
          case pos =>
            rw [hfin (.inl c1)]
            go_wp2_with fail
            go_ret
            exact ⟨rfl, K9⟩
          by_cases c2 : hx < x
          case pos =>
            rw [hfin (.inr (.inl c2))]
            go_wp2_with fail
            go_ret
            exact ⟨rfl, K9⟩
          by_cases c3 : y < ly
          case pos =>
            rw [hfin (.inr (.inr (.inl c3)))]
            go_wp2_with fail
            go_ret
            exact ⟨rfl, K9⟩
          by_cases c4 : hy < y
          case pos =>
            rw [hfin (.inr (.inr (.inr c4)))]
            go_wp2_with fail
            go_ret
            exact ⟨rfl, K9⟩
          clear hfin
          generalize inV l (x, y) = q
          go_wp2_with fail
          go_ret
          exact ⟨rfl, K9⟩
end Go.Proofs.Ytempleochkohlaa
