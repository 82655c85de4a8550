/-
  OUR OWN TEXT. The specification's turns of a path, by contract, at whatever points.
-/
import Derived.Test.YtfdnadiliedikaaDoorSCodeT
import Derived.Test.YtfdnadiliedikaaDoorMarkP
import Derived.Deep.AppendLies
import Derived.Deep.DrawnRows
namespace Go.Proofs.YtfdnadiliedikaaDoor
open Go.RowKit Go.Sort

theorem isT_last {l : List P2} {k : Nat} (h : k + 1 = l.length) : isT l k = true := by unfold isT; rw [decide_eq_true h]; simp
theorem isT_mid {l : List P2} {q : Nat} (h : q + 1 + 1 < l.length) : isT l (q + 1) = !decide ((ptAt l (q + 2)).1 - (ptAt l (q + 1)).1 = (ptAt l (q + 1)).1 - (ptAt l q).1 ∧ (ptAt l (q + 2)).2 - (ptAt l (q + 1)).2 = (ptAt l (q + 1)).2 - (ptAt l q).2) := by
  unfold isT dP
  rw [decide_eq_false (by omega : ¬ q + 1 = 0), decide_eq_false (by omega : ¬ q + 1 + 1 = l.length)]
  simp only [Bool.false_or, Nat.add_sub_cancel, ne_eq, Prod.mk.injEq, decide_not, show q + 1 + 1 = q + 2 from rfl]
  congr 1
  rw [decide_eq_decide]
  omega
theorem turnsK_one (l : List P2) : turnsK l 1 = [ptAt l 0] := by rw [turnsK_succ]; simp [turnsK, isT]
set_option maxRecDepth 100000 in
set_option maxHeartbeats 4000000 in
theorem sTurns_ok (a : Option Addr) (np cp : Nat) (l : List P2) (w : World) (hP : Pts w.heap.size w a np l) (hp : pathP l = true) :
    Calls Tryd.prog 59 #[.slice a np cp] w fun e W' => ∃ v, e = .returned v ∧ AnsT w.heap.size W'.heap.size W' v (turnsL l) ∧ Below w.heap.size w W' := by
  obtain ⟨i0, hi0, hz0, hz1, hz2⟩ := info_parts Tryd.infoPt
  obtain ⟨hlen, hP⟩ := hP
  have HL : Hid (l.length = np) := hlen
  obtain ⟨⟨hl1, hl2⟩, hok, hbs⟩ := pathP_iff.1 hp
  have HOK : Hid (∀ i, i < np → okP (ptAt l i) = true) := fun i hi => hok i (by rw [hlen]; exact hi)
  rw [hlen] at hl1 hl2
  rcases hP with h0 | ⟨g, off, rfl, hg, hc⟩
  · omega
  have HC : Hid (∀ j, j < np → w.cell? ⟨g, off + j * 2, none⟩ = some (.int .i64 (ptAt l j).1) ∧ w.cell? ⟨g, off + j * 2 + 1, none⟩ = some (.int .i64 (ptAt l j).2)) := hc
  obtain ⟨d0, d1⟩ := hc 0 (by omega)
  simp only [Nat.zero_mul, Nat.add_zero] at d0 d1
  have i1 : (0 : Int) < (np : Int) := by omega
  clear hlen hc hok hbs hp
  go_enter Tryd.func59, Tryd.ntmps59
  go_wp2_with fail
  go_loopw [3, 4] (fun o i wr => ∃ k : Nat, 1 ≤ k ∧ k ≤ np ∧ i = .int .i64 k ∧ wr.ownsRow w.heap.size 42 2 o (turnsK l k).length (ptCells (turnsK l k)) ∧ Below w.heap.size w wr) (fun _ i _ => np - (intOf i).toNat)
  case atStart => exact ⟨1, Nat.le_refl _, hl1, rfl, by rw [turnsK_one]; exact own_lit (heap_new w _) (Nat.le_refl _) rfl (Nat.le_refl _) (by simp [maxLen]) rfl rfl, (by repeat (first | exact bw_refl _ | assumption | apply bw_drewN | apply bw_drew | apply bw_alloc | refine bw_set ?_ (by simp) _))⟩
  case round =>
    obtain ⟨k, hk1, hk, rfl, hown, hnx⟩ := hrel
    obtain ⟨q, rfl⟩ : ∃ q, k = q + 1 := ⟨k - 1, by omega⟩
    have hzz := hnx.size
    have hm := turnsK_len l (q + 1)
    by_cases hlt : q + 1 < np
    case neg =>
      obtain rfl : np = q + 1 := by omega
      have e1 : Hid (turnsK l (q + 1) = turnsL l) := by change _ = _; unfold turnsL; rw [HL.out]
      rw [e1.out] at hown hm
      have i5 : ¬ ((q + 1 : Nat) : Int) < ((q + 1 : Nat) : Int) := by omega
      go_wp2_with fail
      go_ret
      exact ⟨_, rfl, AnsT.of_own hown rfl, hnx⟩
    case pos =>
      obtain ⟨bx, hbx⟩ : ∃ bx, bx = (ptAt l (q + 1)).1 := ⟨_, rfl⟩
      obtain ⟨b_y, hby⟩ : ∃ b_y, b_y = (ptAt l (q + 1)).2 := ⟨_, rfl⟩
      obtain ⟨n, hn⟩ : ∃ n, n = (turnsK l (q + 1)).length := ⟨_, rfl⟩
      have HN : Hid ((turnsK l (q + 1)).length = n) := hn.symm
      have HB : Hid (ptAt l (q + 1) = (bx, b_y)) := by change _ = _; rw [hbx, hby]
      rw [← hn] at hown hm
      clear hn
      have hB := HOK.out (q + 1) hlt
      rw [HB.out] at hB
      have hB := (ptB_iff _ _).1 hB
      simp only at hB
      obtain ⟨b0, b1, b2, b3⟩ := hB
      have j1 : IntKind.i64.wrap ((q : Int)) = (q : Int) := wrap_small (by omega) (by omega)
      have j2 : (0 : Int) ≤ (q : Int) := Int.natCast_nonneg _
      have j3 : (q : Int) + 1 < (np : Int) := by omega
      have j3' : (q : Int) < (np : Int) := by omega
      obtain ⟨d0, d1⟩ := HC.out (q + 1) hlt
      rw [HB.out] at d0 d1
      simp only at d0 d1
      have q0 := cell_regrown ((hnx.cell (p := ⟨g, off + (q + 1) * 2, none⟩) hg).trans d0)
      have q1 := cell_regrown ((hnx.cell (p := ⟨g, off + (q + 1) * 2 + 1, none⟩) hg).trans d1)
      have D : Hid (w.cell? ⟨g, off + (q + 1) * 2, none⟩ = some (.int .i64 bx) ∧ w.cell? ⟨g, off + (q + 1) * 2 + 1, none⟩ = some (.int .i64 b_y)) := ⟨d0, d1⟩
      clear d0 d1 hbx hby
      by_cases hlast : q + 1 + 1 = np
      case pos =>
        have TT : isT l (q + 1) = true := isT_last (by rw [HL.out]; exact hlast)
        have j4 : ((q : Int) + 1 == (np : Int) - 1) = true := by simp; omega
        have j5 : ((q : Int) + 1 = (np : Int) - 1) = True := by simp; omega
        have j6 : IntKind.i64.wrap ((np : Int) - 1) = (np : Int) - 1 := wrap_small (by omega) (by omega)
        have hsn : Hid ((turnsK l (q + 2)).length = n + 1 ∧ ptCells (turnsK l (q + 2)) = ptCells (turnsK l (q + 1)) ++ [.int .i64 bx, .int .i64 b_y]) := by
          change _ ∧ _
          rw [turnsK_succ, TT, if_pos rfl, ptCells_snoc, HB.out, List.length_append, HN.out]
          exact ⟨rfl, rfl⟩
        clear TT
        go_wp2_with fail
        refine wp_region_quiet_below (by kernel_rfl) (by kernel_rfl) ?_
        repeat (first | go_big_quiet_step (fail))
        refine wpQuiet_nil ?_
        intro _ hw'
        obtain ⟨⟨dq, osq⟩, hw''⟩ := hw'
        subst hw''
        have J := below_regrown wr dq osq
        generalize grow (redrawn wr dq) osq = v1 at J ⊢
        have hown7 := hown.kept (w' := v1) (row := none) ⟨J.os, J.tape, J.output, J.size, fun j hj _ => J.block j hj⟩ (Classical.em _)
        have hn7 := bw_trans hnx J
        have hz7 := hn7.size
        have p0 := (hn7.cell (p := ⟨g, off + (q + 1) * 2, none⟩) hg).trans D.out.1
        have p1 := (hn7.cell (p := ⟨g, off + (q + 1) * 2 + 1, none⟩) hg).trans D.out.2
        clear q0 q1
        go_wp2_with (at_builtin; refine wpList_append_lies _ rfl _ _ _ rfl w.heap.size 42 i0 _ 2 16 Tryd.underlying23 hi0 hz0 hz1 hz2 rfl (by omega) _ _ _ rfl (hown7.alloc _) ⟨v1.heap.size, 0, none⟩ 1 1 [.int .i64 bx, .int .i64 b_y] rfl rfl (World.news_of_block (cs := #[.int .i64 bx, .int .i64 b_y]) (t := 42) (fr := (0, 0)) (heap_alloc_new v1 _)) (by simp [Value.oneCell']) (by omega) (by simp [maxLen]; omega) (by omega) (by simp; omega) (v1.heap.size + 1) (by simp) ?_; intro gg cap' w8 hown1 hgrow hat hlt1)
        go_roundw
        case rel => exact ⟨q + 1 + 1, by omega, by omega, by simp, by rw [hsn.out.1, hsn.out.2]; exact hown1, (hn7.alloc hn7.size _).grown hgrow (by simp; omega) (fun j e => (hown7.lt j e).1)⟩
        case measure => simp [intOf]; omega
      case neg =>
        have j4 : ((q : Int) + 1 == (np : Int) - 1) = false := by simp; omega
        have j5 : ((q : Int) + 1 = (np : Int) - 1) = False := by simp; omega
        have j6 : IntKind.i64.wrap ((np : Int) - 1) = (np : Int) - 1 := wrap_small (by omega) (by omega)
        have j7 : (q : Int) + 1 + 1 < (np : Int) := by omega
        have TM := isT_mid (l := l) (q := q) (by rw [HL.out]; omega)
        obtain ⟨ax, hax⟩ : ∃ ax, ax = (ptAt l q).1 := ⟨_, rfl⟩
        obtain ⟨ay, hay⟩ : ∃ ay, ay = (ptAt l q).2 := ⟨_, rfl⟩
        obtain ⟨cx, hcx⟩ : ∃ cx, cx = (ptAt l (q + 1 + 1)).1 := ⟨_, rfl⟩
        obtain ⟨cy, hcy⟩ : ∃ cy, cy = (ptAt l (q + 1 + 1)).2 := ⟨_, rfl⟩
        have EA : ptAt l q = (ax, ay) := by rw [hax, hay]
        have EC : ptAt l (q + 1 + 1) = (cx, cy) := by rw [hcx, hcy]
        have hA := HOK.out q (by omega)
        have hC := HOK.out (q + 1 + 1) (by omega)
        obtain ⟨d0, d1⟩ := HC.out q (by omega)
        obtain ⟨d2, d3⟩ := HC.out (q + 1 + 1) (by omega)
        rw [EA] at hA d0 d1
        rw [EC] at hC d2 d3
        rw [HB.out, EA, show q + 2 = q + 1 + 1 from rfl, EC] at TM
        have hA := (ptB_iff _ _).1 hA
        have hC := (ptB_iff _ _).1 hC
        simp only at hA hC TM d0 d1 d2 d3
        obtain ⟨a0, a1, a2, a3⟩ := hA
        obtain ⟨c0, c1, c2, c3⟩ := hC
        have r0 := cell_regrown ((hnx.cell (p := ⟨g, off + q * 2, none⟩) hg).trans d0)
        have r1 := cell_regrown ((hnx.cell (p := ⟨g, off + q * 2 + 1, none⟩) hg).trans d1)
        have s0 := cell_regrown ((hnx.cell (p := ⟨g, off + (q + 1 + 1) * 2, none⟩) hg).trans d2)
        have s1 := cell_regrown ((hnx.cell (p := ⟨g, off + (q + 1 + 1) * 2 + 1, none⟩) hg).trans d3)
        have k1 : IntKind.i64.wrap (cx - bx) = cx - bx := wrap_small (by omega) (by omega)
        have k2 : IntKind.i64.wrap (bx - ax) = bx - ax := wrap_small (by omega) (by omega)
        have k3 : IntKind.i64.wrap (cy - b_y) = cy - b_y := wrap_small (by omega) (by omega)
        have k4 : IntKind.i64.wrap (b_y - ay) = b_y - ay := wrap_small (by omega) (by omega)
        clear d0 d1 d2 d3 hax hay hcx hcy EA EC
        by_cases hx : cx - bx = bx - ax
        case neg =>
          have TT : isT l (q + 1) = true := by rw [TM]; simp [hx]
          have x1 : (cx - bx == bx - ax) = false := by simpa using hx
          have x3 : (cx - bx != bx - ax) = true := by unfold bne; rw [x1]; rfl
          have x2 : (cx - bx = bx - ax) = False := by simpa using hx
          clear TM hx
          have hsn : Hid ((turnsK l (q + 2)).length = n + 1 ∧ ptCells (turnsK l (q + 2)) = ptCells (turnsK l (q + 1)) ++ [.int .i64 bx, .int .i64 b_y]) := by
            change _ ∧ _
            rw [turnsK_succ, TT, if_pos rfl, ptCells_snoc, HB.out, List.length_append, HN.out]
            exact ⟨rfl, rfl⟩
          clear TT
          go_wp2_with fail
          refine wp_region_quiet_below (by kernel_rfl) (by kernel_rfl) ?_
          repeat (first | go_big_quiet_step (fail))
          refine wpQuiet_nil ?_
          intro _ hw'
          obtain ⟨⟨dq, osq⟩, hw''⟩ := hw'
          subst hw''
          have J := below_regrown wr dq osq
          generalize grow (redrawn wr dq) osq = v1 at J ⊢
          have hown7 := hown.kept (w' := v1) (row := none) ⟨J.os, J.tape, J.output, J.size, fun j hj _ => J.block j hj⟩ (Classical.em _)
          have hn7 := bw_trans hnx J
          have hz7 := hn7.size
          have p0 := (hn7.cell (p := ⟨g, off + (q + 1) * 2, none⟩) hg).trans D.out.1
          have p1 := (hn7.cell (p := ⟨g, off + (q + 1) * 2 + 1, none⟩) hg).trans D.out.2
          clear q0 q1
          go_wp2_with (at_builtin; refine wpList_append_lies _ rfl _ _ _ rfl w.heap.size 42 i0 _ 2 16 Tryd.underlying23 hi0 hz0 hz1 hz2 rfl (by omega) _ _ _ rfl (hown7.alloc _) ⟨v1.heap.size, 0, none⟩ 1 1 [.int .i64 bx, .int .i64 b_y] rfl rfl (World.news_of_block (cs := #[.int .i64 bx, .int .i64 b_y]) (t := 42) (fr := (0, 0)) (heap_alloc_new v1 _)) (by simp [Value.oneCell']) (by omega) (by simp [maxLen]; omega) (by omega) (by simp; omega) (v1.heap.size + 1) (by simp) ?_; intro gg cap' w8 hown1 hgrow hat hlt1)
          go_roundw
          case rel => exact ⟨q + 1 + 1, by omega, by omega, by simp, by rw [hsn.out.1, hsn.out.2]; exact hown1, (hn7.alloc hn7.size _).grown hgrow (by simp; omega) (fun j e => (hown7.lt j e).1)⟩
          case measure => simp [intOf]; omega
        case pos =>
          by_cases hy : cy - b_y = b_y - ay
          case neg =>
            have TT : isT l (q + 1) = true := by rw [TM]; simp [hy]
            have x1 : (cx - bx == bx - ax) = true := by simpa using hx
            have x3 : (cx - bx != bx - ax) = false := by unfold bne; rw [x1]; rfl
            have x2 : (cx - bx = bx - ax) = True := by simpa using hx
            have y1 : (cy - b_y == b_y - ay) = false := by simpa using hy
            have y3 : (cy - b_y != b_y - ay) = true := by unfold bne; rw [y1]; rfl
            have y2 : (cy - b_y = b_y - ay) = False := by simpa using hy
            clear TM hx hy
            have hsn : Hid ((turnsK l (q + 2)).length = n + 1 ∧ ptCells (turnsK l (q + 2)) = ptCells (turnsK l (q + 1)) ++ [.int .i64 bx, .int .i64 b_y]) := by
              change _ ∧ _
              rw [turnsK_succ, TT, if_pos rfl, ptCells_snoc, HB.out, List.length_append, HN.out]
              exact ⟨rfl, rfl⟩
            clear TT
            go_wp2_with fail
            refine wp_region_quiet_below (by kernel_rfl) (by kernel_rfl) ?_
            repeat (first | go_big_quiet_step (fail))
            refine wpQuiet_nil ?_
            intro _ hw'
            obtain ⟨⟨dq, osq⟩, hw''⟩ := hw'
            subst hw''
            have J := below_regrown wr dq osq
            generalize grow (redrawn wr dq) osq = v1 at J ⊢
            have hown7 := hown.kept (w' := v1) (row := none) ⟨J.os, J.tape, J.output, J.size, fun j hj _ => J.block j hj⟩ (Classical.em _)
            have hn7 := bw_trans hnx J
            have hz7 := hn7.size
            have p0 := (hn7.cell (p := ⟨g, off + (q + 1) * 2, none⟩) hg).trans D.out.1
            have p1 := (hn7.cell (p := ⟨g, off + (q + 1) * 2 + 1, none⟩) hg).trans D.out.2
            clear q0 q1
            go_wp2_with (at_builtin; refine wpList_append_lies _ rfl _ _ _ rfl w.heap.size 42 i0 _ 2 16 Tryd.underlying23 hi0 hz0 hz1 hz2 rfl (by omega) _ _ _ rfl (hown7.alloc _) ⟨v1.heap.size, 0, none⟩ 1 1 [.int .i64 bx, .int .i64 b_y] rfl rfl (World.news_of_block (cs := #[.int .i64 bx, .int .i64 b_y]) (t := 42) (fr := (0, 0)) (heap_alloc_new v1 _)) (by simp [Value.oneCell']) (by omega) (by simp [maxLen]; omega) (by omega) (by simp; omega) (v1.heap.size + 1) (by simp) ?_; intro gg cap' w8 hown1 hgrow hat hlt1)
            go_roundw
            case rel => exact ⟨q + 1 + 1, by omega, by omega, by simp, by rw [hsn.out.1, hsn.out.2]; exact hown1, (hn7.alloc hn7.size _).grown hgrow (by simp; omega) (fun j e => (hown7.lt j e).1)⟩
            case measure => simp [intOf]; omega
          case pos =>
            have TT : isT l (q + 1) = false := by rw [TM]; simp [hx, hy]
            have x1 : (cx - bx == bx - ax) = true := by simpa using hx
            have x3 : (cx - bx != bx - ax) = false := by unfold bne; rw [x1]; rfl
            have x2 : (cx - bx = bx - ax) = True := by simpa using hx
            have y1 : (cy - b_y == b_y - ay) = true := by simpa using hy
            have y3 : (cy - b_y != b_y - ay) = false := by unfold bne; rw [y1]; rfl
            have y2 : (cy - b_y = b_y - ay) = True := by simpa using hy
            clear TM hx hy
            have hsn : Hid (turnsK l (q + 2) = turnsK l (q + 1)) := by
              change _ = _
              rw [turnsK_succ, TT, if_neg (by simp), List.append_nil]
            clear TT
            go_wp2_with fail
            refine wp_region_quiet_below (by kernel_rfl) (by kernel_rfl) ?_
            repeat (first | go_big_quiet_step (fail))
            refine wpQuiet_nil ?_
            intro _ hw'
            obtain ⟨⟨dq, osq⟩, hw''⟩ := hw'
            subst hw''
            have J := below_regrown wr dq osq
            generalize grow (redrawn wr dq) osq = v1 at J ⊢
            have hown7 := hown.kept (w' := v1) (row := none) ⟨J.os, J.tape, J.output, J.size, fun j hj _ => J.block j hj⟩ (Classical.em _)
            go_wp2_with fail
            go_roundw
            case rel => exact ⟨q + 1 + 1, by omega, by omega, by simp, by rw [hsn.out, HN.out]; exact hown7, bw_trans hnx J⟩
            case measure => simp [intOf]; omega
def turnsV (l : List P2) : List P2 := if pathP l then turnsL l else []
theorem turnsV_len (l : List P2) : (turnsV l).length ≤ 400 := by
  unfold turnsV
  cases h : pathP l
  · simp
  · rw [if_pos rfl]; exact Nat.le_trans (turnsK_len _ _) (pathP_parts h).1.2
end Go.Proofs.YtfdnadiliedikaaDoor
