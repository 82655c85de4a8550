/-
  OUR OWN TEXT. The program's turns of a path, by contract, at whatever points.
-/
import Derived.Test.YtfdnadiliedikaaDoorCodeT
import Derived.Test.YtfdnadiliedikaaDoorSCodeU
import Derived.Deep.AppendLies
import Derived.Deep.DrawnRows
namespace Go.Proofs.YtfdnadiliedikaaDoor
open Go.RowKit Go.Sort

theorem besP_cmp {a b : P2} (h : besP a b = true) : cmpI b.1 a.1 = b.1 - a.1 ∧ cmpI b.2 a.2 = b.2 - a.2 := by
  have h := besP_unit h
  unfold unitP dP at h
  simp only [Prod.mk.injEq] at h
  unfold cmpI
  constructor <;> split <;> (try split) <;> omega
set_option maxRecDepth 100000 in
set_option maxHeartbeats 4000000 in
theorem codeTurns_any (a : Option Addr) (np cp : Nat) (l : List P2) (w : World) (hn : np ≤ 1048576) (hcp : np ≤ cp) (hP : Pts w.heap.size w a np l) :
    Calls Tryd.prog 15 #[.slice a np cp] w fun e W' => ∃ v, e = .returned v ∧ AnsT w.heap.size W'.heap.size W' v (turnsV l) ∧ Below w.heap.size w W' := by
  obtain ⟨i0, hi0, hz0, hz1, hz2⟩ := info_parts Tryd.infoPt
  have h1 := isPath_any a np cp l w hcp hP hn
  cases hp : pathP l
  · have e1 : Hid (turnsV l = []) := by change _ = _; unfold turnsV; rw [hp]; rfl
    rw [hp] at h1
    go_enter Tryd.func15, Tryd.ntmps15
    go_wp2_with fail
    refine h1.mono ?_
    rintro e w1 ⟨rfl, J⟩
    go_wp2_with fail
    go_ret
    exact ⟨_, rfl, .inl ⟨e1.out, _, _, rfl⟩, J⟩
  rw [hp] at h1
  have hTV : Hid (turnsV l = turnsL l) := by change _ = _; unfold turnsV; rw [hp]; rfl
  obtain ⟨hlen, hP⟩ := hP
  have HL : Hid (l.length = np) := hlen
  obtain ⟨⟨hl1, hl2⟩, hok, hbs⟩ := pathP_iff.1 hp
  have HBS : Hid (∀ i, i + 1 < np → besP (ptAt l i) (ptAt l (i + 1)) = true) := fun i hi => hbs i (by rw [hlen]; exact hi)
  rw [hlen] at hl1 hl2
  rcases hP with h0 | ⟨g, off, rfl, hg, hc⟩
  · omega
  have HC : Hid (∀ j, j < np → w.cell? ⟨g, off + j * 2, none⟩ = some (.int .i64 (ptAt l j).1) ∧ w.cell? ⟨g, off + j * 2 + 1, none⟩ = some (.int .i64 (ptAt l j).2)) := hc
  clear hlen hc hok hbs hp
  go_enter Tryd.func15, Tryd.ntmps15
  go_wp2_with fail
  refine h1.mono ?_
  rintro e w1 ⟨rfl, J1⟩
  go_wp2_with fail
  go_loopw [3, 11] (fun o i wr => ∃ k : Nat, k ≤ np ∧ i = .int .i64 k ∧ wr.ownsRow w.heap.size 42 2 o (turnsK l k).length (ptCells (turnsK l k)) ∧ Below w.heap.size w wr) (fun _ i _ => np - (intOf i).toNat)
  case atStart => exact ⟨0, Nat.zero_le _, rfl, ⟨rfl, .inl ⟨rfl, rfl⟩⟩, J1⟩
  case round =>
    obtain ⟨k, hk, rfl, hown, hnx⟩ := hrel
    have hzz := hnx.size
    have hm := turnsK_len l k
    by_cases hlt : k < np
    case neg =>
      obtain rfl : k = np := by omega
      have e1 : Hid (turnsK l k = turnsV l) := by change _ = _; rw [hTV.out]; unfold turnsL; rw [HL.out]
      rw [e1.out] at hown hm
      go_wp2_with fail
      go_ret
      exact ⟨_, rfl, AnsT.of_own hown rfl, hnx⟩
    case pos =>
      obtain ⟨bx, hbx⟩ : ∃ bx, bx = (ptAt l k).1 := ⟨_, rfl⟩
      obtain ⟨b_y, hby⟩ : ∃ b_y, b_y = (ptAt l k).2 := ⟨_, rfl⟩
      obtain ⟨n, hn'⟩ : ∃ n, n = (turnsK l k).length := ⟨_, rfl⟩
      have HN : Hid ((turnsK l k).length = n) := hn'.symm
      have HB : Hid (ptAt l k = (bx, b_y)) := by change _ = _; rw [hbx, hby]
      rw [← hn'] at hown hm
      clear hn'
      have i3 : (0 : Int) ≤ (k : Int) := Int.natCast_nonneg _
      have i4 : (k : Int) < (np : Int) := by omega
      obtain ⟨d0, d1⟩ := HC.out k hlt
      rw [HB.out] at d0 d1
      simp only at d0 d1
      have c0 := (hnx.cell (p := ⟨g, off + k * 2, none⟩) hg).trans d0
      have c1' := (hnx.cell (p := ⟨g, off + k * 2 + 1, none⟩) hg).trans d1
      obtain ⟨V, hV, BV, T⟩ : ∃ V, V = wr.alloc (.cells #[.int .i64 bx, .int .i64 b_y] 42) ∧ Below wr.heap.size wr V ∧ V.heap[wr.heap.size]? = some (.cells #[.int .i64 bx, .int .i64 b_y] 42) := ⟨_, rfl, (by repeat (first | exact bw_refl _ | assumption | apply bw_drewN | apply bw_drew | apply bw_alloc | refine bw_set ?_ (by simp) _)), heap_new _ _⟩
      have hnV := bw_trans hnx BV
      obtain ⟨t0, t1⟩ := reg_2 T
      have j6 : IntKind.i64.wrap ((np : Int) - 1) = (np : Int) - 1 := wrap_small (by omega) (by omega)
      clear d0 d1 hbx hby
      by_cases hk0 : k = 0
      case pos =>
        have TT : isT l k = true := by unfold isT; rw [decide_eq_true hk0]; rfl
        subst hk0
        simp only [Nat.zero_mul, Nat.add_zero] at c0 c1'
        have hsn : Hid ((turnsK l (0 + 1)).length = n + 1 ∧ ptCells (turnsK l (0 + 1)) = ptCells (turnsK l 0) ++ [.int .i64 bx, .int .i64 b_y]) := by
          change _ ∧ _
          rw [turnsK_succ, TT, if_pos rfl, ptCells_snoc, HB.out, List.length_append, HN.out]
          exact ⟨rfl, rfl⟩
        clear TT
        go_upto_region 7 with fail
        rw [← hV]
        clear hV
        refine wp_region_quiet_below (by kernel_rfl) (by kernel_rfl) ?_
        repeat (first | go_big_quiet_step (fail))
        refine wpQuiet_nil ?_
        intro _ hw'
        obtain ⟨⟨dq, osq⟩, hw''⟩ := hw'
        subst hw''
        have J := below_regrown V dq osq
        generalize grow (redrawn V dq) osq = v1 at J ⊢
        have hown7 := hown.kept (w' := v1) (row := none) ⟨(bw_trans BV J).os, (bw_trans BV J).tape, (bw_trans BV J).output, (bw_trans BV J).size, fun j hj _ => (bw_trans BV J).block j hj⟩ (Classical.em _)
        have hn7 := bw_trans hnV J
        have hz7 := hn7.size
        obtain ⟨p0, p1⟩ := blk_2 (keep J T)
        go_wp2_with (at_builtin; refine wpList_append_lies _ rfl _ _ _ rfl w.heap.size 42 i0 _ 2 16 Tryd.underlying23 hi0 hz0 hz1 hz2 rfl (by omega) _ _ _ rfl (hown7.alloc _) ⟨v1.heap.size, 0, none⟩ 1 1 [.int .i64 bx, .int .i64 b_y] rfl rfl (World.news_of_block (cs := #[.int .i64 bx, .int .i64 b_y]) (t := 42) (fr := (0, 0)) (heap_alloc_new v1 _)) (by simp [Value.oneCell']) (by omega) (by simp [maxLen]; omega) (by omega) (by simp; omega) (v1.heap.size + 1) (by simp) ?_; intro gg cap' w8 hown1 hgrow hat hlt1)
        go_roundw
        case rel => exact ⟨0 + 1, by omega, by simp, by rw [hsn.out.1, hsn.out.2]; exact hown1, (hn7.alloc hn7.size _).grown hgrow (by simp; omega) (fun j e => (hown7.lt j e).1)⟩
        case measure => simp [intOf]; omega
      case neg =>
        have j4 : ((k : Int) == 0) = false := by simp; omega
        have j5 : ((k : Int) = 0) = False := by simp; omega
        by_cases hlast : k + 1 = np
        case pos =>
          have TT : isT l k = true := isT_last (by rw [HL.out]; exact hlast)
          have j7 : ((k : Int) == (np : Int) - 1) = true := by simp; omega
          have j8 : ((k : Int) = (np : Int) - 1) = True := by simp; omega
          have hsn : Hid ((turnsK l (k + 1)).length = n + 1 ∧ ptCells (turnsK l (k + 1)) = ptCells (turnsK l k) ++ [.int .i64 bx, .int .i64 b_y]) := by
            change _ ∧ _
            rw [turnsK_succ, TT, if_pos rfl, ptCells_snoc, HB.out, List.length_append, HN.out]
            exact ⟨rfl, rfl⟩
          clear TT
          go_upto_region 7 with fail
          rw [← hV]
          clear hV
          refine wp_region_quiet_below (by kernel_rfl) (by kernel_rfl) ?_
          repeat (first | go_big_quiet_step (fail))
          refine wpQuiet_nil ?_
          intro _ hw'
          obtain ⟨⟨dq, osq⟩, hw''⟩ := hw'
          subst hw''
          have J := below_regrown V dq osq
          generalize grow (redrawn V dq) osq = v1 at J ⊢
          have hown7 := hown.kept (w' := v1) (row := none) ⟨(bw_trans BV J).os, (bw_trans BV J).tape, (bw_trans BV J).output, (bw_trans BV J).size, fun j hj _ => (bw_trans BV J).block j hj⟩ (Classical.em _)
          have hn7 := bw_trans hnV J
          have hz7 := hn7.size
          obtain ⟨p0, p1⟩ := blk_2 (keep J T)
          go_wp2_with (at_builtin; refine wpList_append_lies _ rfl _ _ _ rfl w.heap.size 42 i0 _ 2 16 Tryd.underlying23 hi0 hz0 hz1 hz2 rfl (by omega) _ _ _ rfl (hown7.alloc _) ⟨v1.heap.size, 0, none⟩ 1 1 [.int .i64 bx, .int .i64 b_y] rfl rfl (World.news_of_block (cs := #[.int .i64 bx, .int .i64 b_y]) (t := 42) (fr := (0, 0)) (heap_alloc_new v1 _)) (by simp [Value.oneCell']) (by omega) (by simp [maxLen]; omega) (by omega) (by simp; omega) (v1.heap.size + 1) (by simp) ?_; intro gg cap' w8 hown1 hgrow hat hlt1)
          go_roundw
          case rel => exact ⟨k + 1, by omega, by simp, by rw [hsn.out.1, hsn.out.2]; exact hown1, (hn7.alloc hn7.size _).grown hgrow (by simp; omega) (fun j e => (hown7.lt j e).1)⟩
          case measure => simp [intOf]; omega
        case neg =>
          have j7 : ((k : Int) == (np : Int) - 1) = false := by simp; omega
          have j8 : ((k : Int) = (np : Int) - 1) = False := by simp; omega
          obtain ⟨q, hq⟩ : ∃ q, k = q + 1 := ⟨k - 1, by omega⟩
          have TM := isT_mid (l := l) (q := q) (by rw [HL.out]; omega)
          have w1 : IntKind.i64.wrap ((k : Int) - 1) = (q : Int) := by rw [hq]; rw [show ((q + 1 : Nat) : Int) - 1 = (q : Int) by omega]; exact wrap_small (by omega) (by omega)
          have w2 : (0 : Int) ≤ (q : Int) := Int.natCast_nonneg _
          have w3 : (q : Int) < (np : Int) := by omega
          have w4 : (k : Int) + 1 < (np : Int) := by omega
          have w5 : ((k : Int) - 1) = (q : Int) := by omega
          obtain ⟨d0, d1⟩ := HC.out q (by omega)
          obtain ⟨d2, d3⟩ := HC.out (k + 1) (by omega)
          have b1 := besP_cmp (HBS.out q (by omega))
          have b2 := besP_cmp (HBS.out k (by omega))
          rw [← hq] at b1 TM
          rw [show q + 2 = k + 1 by omega] at TM
          have X1 := fun V => step_any (ptAt l q) (ptAt l k) V
          have X2 := fun V => step_any (ptAt l k) (ptAt l (k + 1)) V
          simp only [b1.1, b1.2] at X1
          simp only [b2.1, b2.2] at X2
          rw [HB.out] at X1 X2 TM
          have r0 := cell_regrown ((hnV.cell (p := ⟨g, off + q * 2, none⟩) hg).trans d0)
          have r1 := cell_regrown ((hnV.cell (p := ⟨g, off + q * 2 + 1, none⟩) hg).trans d1)
          have s0 := cell_regrown ((hnV.cell (p := ⟨g, off + (k + 1) * 2, none⟩) hg).trans d2)
          have s1 := cell_regrown ((hnV.cell (p := ⟨g, off + (k + 1) * 2 + 1, none⟩) hg).trans d3)
          clear d0 d1 d2 d3 b1 b2 hq
          simp only at X1 X2 TM
          generalize bx - (ptAt l q).1 = u1 at X1 TM
          generalize b_y - (ptAt l q).2 = u2 at X1 TM
          generalize (ptAt l (k + 1)).1 - bx = v3 at X2 TM
          generalize (ptAt l (k + 1)).2 - b_y = v4 at X2 TM
          replace X1 : Hid _ := X1
          replace X2 : Hid _ := X2
          by_cases hx : v3 = u1
          case neg =>
            have TT : isT l k = true := by rw [TM]; simp [hx]
            have x1 : (u1 == v3) = false := by simpa using Ne.symm hx
            have x2 : (u1 = v3) = False := by simpa using Ne.symm hx
            have x3 : (u1 != v3) = true := by unfold bne; rw [x1]; rfl
            clear TM hx
            have hsn : Hid ((turnsK l (k + 1)).length = n + 1 ∧ ptCells (turnsK l (k + 1)) = ptCells (turnsK l k) ++ [.int .i64 bx, .int .i64 b_y]) := by
              change _ ∧ _
              rw [turnsK_succ, TT, if_pos rfl, ptCells_snoc, HB.out, List.length_append, HN.out]
              exact ⟨rfl, rfl⟩
            clear TT
            go_upto_region 7 with fail
            rw [← hV]
            clear hV
            refine wp_region_quiet_below (by kernel_rfl) (by kernel_rfl) ?_
            repeat (first | go_big_quiet_step (first | (go_at_call 41; with_reducible exact Calls.regrown_of (X1.out _)) | (go_at_call 41; with_reducible exact Calls.regrown_of (X2.out _))))
            refine wpQuiet_nil ?_
            intro _ hw'
            obtain ⟨⟨dq, osq⟩, hw''⟩ := hw'
            subst hw''
            have J := below_regrown V dq osq
            generalize grow (redrawn V dq) osq = v1 at J ⊢
            have hown7 := hown.kept (w' := v1) (row := none) ⟨(bw_trans BV J).os, (bw_trans BV J).tape, (bw_trans BV J).output, (bw_trans BV J).size, fun j hj _ => (bw_trans BV J).block j hj⟩ (Classical.em _)
            have hn7 := bw_trans hnV J
            have hz7 := hn7.size
            obtain ⟨p0, p1⟩ := blk_2 (keep J T)
            go_wp2_with (at_builtin; refine wpList_append_lies _ rfl _ _ _ rfl w.heap.size 42 i0 _ 2 16 Tryd.underlying23 hi0 hz0 hz1 hz2 rfl (by omega) _ _ _ rfl (hown7.alloc _) ⟨v1.heap.size, 0, none⟩ 1 1 [.int .i64 bx, .int .i64 b_y] rfl rfl (World.news_of_block (cs := #[.int .i64 bx, .int .i64 b_y]) (t := 42) (fr := (0, 0)) (heap_alloc_new v1 _)) (by simp [Value.oneCell']) (by omega) (by simp [maxLen]; omega) (by omega) (by simp; omega) (v1.heap.size + 1) (by simp) ?_; intro gg cap' w8 hown1 hgrow hat hlt1)
            go_roundw
            case rel => exact ⟨k + 1, by omega, by simp, by rw [hsn.out.1, hsn.out.2]; exact hown1, (hn7.alloc hn7.size _).grown hgrow (by simp; omega) (fun j e => (hown7.lt j e).1)⟩
            case measure => simp [intOf]; omega
          case pos =>
            subst hx
            by_cases hy : v4 = u2
            case neg =>
              have TT : isT l k = true := by rw [TM]; simp [hy]
              have x1 : (u2 == v4) = false := by simpa using Ne.symm hy
              have x2 : (u2 = v4) = False := by simpa using Ne.symm hy
              have x3 : (u2 != v4) = true := by unfold bne; rw [x1]; rfl
              clear TM hy
              have hsn : Hid ((turnsK l (k + 1)).length = n + 1 ∧ ptCells (turnsK l (k + 1)) = ptCells (turnsK l k) ++ [.int .i64 bx, .int .i64 b_y]) := by
                change _ ∧ _
                rw [turnsK_succ, TT, if_pos rfl, ptCells_snoc, HB.out, List.length_append, HN.out]
                exact ⟨rfl, rfl⟩
              clear TT
              go_upto_region 7 with fail
              rw [← hV]
              clear hV
              refine wp_region_quiet_below (by kernel_rfl) (by kernel_rfl) ?_
              repeat (first | go_big_quiet_step (first | (go_at_call 41; with_reducible exact Calls.regrown_of (X1.out _)) | (go_at_call 41; with_reducible exact Calls.regrown_of (X2.out _))))
              refine wpQuiet_nil ?_
              intro _ hw'
              obtain ⟨⟨dq, osq⟩, hw''⟩ := hw'
              subst hw''
              have J := below_regrown V dq osq
              generalize grow (redrawn V dq) osq = v1 at J ⊢
              have hown7 := hown.kept (w' := v1) (row := none) ⟨(bw_trans BV J).os, (bw_trans BV J).tape, (bw_trans BV J).output, (bw_trans BV J).size, fun j hj _ => (bw_trans BV J).block j hj⟩ (Classical.em _)
              have hn7 := bw_trans hnV J
              have hz7 := hn7.size
              obtain ⟨p0, p1⟩ := blk_2 (keep J T)
              go_wp2_with (at_builtin; refine wpList_append_lies _ rfl _ _ _ rfl w.heap.size 42 i0 _ 2 16 Tryd.underlying23 hi0 hz0 hz1 hz2 rfl (by omega) _ _ _ rfl (hown7.alloc _) ⟨v1.heap.size, 0, none⟩ 1 1 [.int .i64 bx, .int .i64 b_y] rfl rfl (World.news_of_block (cs := #[.int .i64 bx, .int .i64 b_y]) (t := 42) (fr := (0, 0)) (heap_alloc_new v1 _)) (by simp [Value.oneCell']) (by omega) (by simp [maxLen]; omega) (by omega) (by simp; omega) (v1.heap.size + 1) (by simp) ?_; intro gg cap' w8 hown1 hgrow hat hlt1)
              go_roundw
              case rel => exact ⟨k + 1, by omega, by simp, by rw [hsn.out.1, hsn.out.2]; exact hown1, (hn7.alloc hn7.size _).grown hgrow (by simp; omega) (fun j e => (hown7.lt j e).1)⟩
              case measure => simp [intOf]; omega
            case pos =>
              subst hy
              have TT : isT l k = false := by rw [TM]; simp
              clear TM
              have hsn : Hid (turnsK l (k + 1) = turnsK l k) := by
                change _ = _
                rw [turnsK_succ, TT, if_neg (by simp), List.append_nil]
              clear TT
              go_upto_region 7 with fail
              rw [← hV]
              clear hV
              refine wp_region_quiet_below (by kernel_rfl) (by kernel_rfl) ?_
              repeat (first | go_big_quiet_step (first | (go_at_call 41; with_reducible exact Calls.regrown_of (X1.out _)) | (go_at_call 41; with_reducible exact Calls.regrown_of (X2.out _))))
              refine wpQuiet_nil ?_
              intro _ hw'
              obtain ⟨⟨dq, osq⟩, hw''⟩ := hw'
              subst hw''
              have J := below_regrown V dq osq
              generalize grow (redrawn V dq) osq = v1 at J ⊢
              have hown7 := hown.kept (w' := v1) (row := none) ⟨(bw_trans BV J).os, (bw_trans BV J).tape, (bw_trans BV J).output, (bw_trans BV J).size, fun j hj _ => (bw_trans BV J).block j hj⟩ (Classical.em _)
              have hn7 := bw_trans hnV J
              have hz7 := hn7.size
              obtain ⟨p0, p1⟩ := blk_2 (keep J T)
              clear p0 p1
              go_wp2_with fail
              go_roundw
              case rel => exact ⟨k + 1, by omega, by simp, by rw [hsn.out, HN.out]; exact hown7, hn7⟩
              case measure => simp [intOf]; omega
end Go.Proofs.YtfdnadiliedikaaDoor
