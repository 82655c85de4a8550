/-
  OUR OWN TEXT. The law FnPathStep, for every input: the call returns true, and each argument reads as it did. Texts of ours, joined, so that the claim keeps to its number of files. Conditions: none but the row's own.
-/
import Derived.Test.YtkncejcpeejkkaaGreatDoorJFnPathStepa
import Derived.Test.YtkncejcpeejkkaaGreatDoorGeoApart
import Derived.Deep.RegionHeld3
import Derived.Test.YtkncejcpeejkkaaGreatDoorBoxes
import Derived.Test.YtkncejcpeejkkaaGreatDoorGeo
import Derived.Test.YtkncejcpeejkkaaGreatDoorLoopT
import Derived.Test.YtkncejcpeejkkaaGreatDoorCards
import Derived.Test.YtkncejcpeejkkaaGreatDoorTie
import Derived.ProofKit
import Derived.OpenShut
import Derived.LaidMore
import Derived.MakeChecks
import Derived.Stop.Joined
import Derived.Stop.LaidErr
import Derived.WalkSmall
import Derived.ChangeOld
import Derived.Lib.SmallJoins
namespace Go.Proofs.YtkncejcpeejkkaaGreatDoor
open Go.RowKit Go.Shelf Go.Sort
attribute [local go_sem] Oper.semAt_some

set_option maxRecDepth 100000 in
set_option maxHeartbeats 4000000 in
theorem ringE_seqS (n : Nat) (hn : 6 ≤ n) (B n₀ : Nat) (q : Option Addr) (rs : List RingT) (w : World) (hB : w.cell? ⟨B, 0, none⟩ = some (.pointer q)) (hn₀ : n₀ ≤ w.heap.size) (hR : RingN n₀ w q rs) :
    SeqOS Fence.wide n Tryz.prog 86 #[.pointer (some ⟨B, 0, none⟩)] segE (KT n₀) (edgR rs) w := by
  intro l J Jx W hW hJ hJx hY h0
  have zBw : B < w.heap.size := World.block_lt_of_cell? _ _ hB
  have hBW := (hW.cell (p := ⟨B, 0, none⟩) zBw).trans hB
  have hRW := hR.keep (hW.mono hn₀)
  have zW := hW.size
  have zB : B < W.heap.size := by omega
  have h1 : 1 ≤ n := by omega
  refine callsIn_of_wp_marks Tryz.func86 rfl trivial ?_ rfl
  simp only [Tryz.ntmps86, List.size_toArray, List.length_cons, List.length_nil, Nat.reduceAdd, Nat.reduceSub, Array.replicate_succ, Array.replicate_zero, List.push_toArray, List.append_toArray, List.nil_append, List.cons_append]
  gi_wp2
  refine wpIn_loop (fun a V => ∃ (dn rest : List RingT) (p : Option Addr) (ds : List Nat) (u7 u8 u9 u10 u11 u12 u13 u14 u15 u16 u17 : Value), rs = dn ++ rest ∧ RingN n₀ V p rest ∧ J (edgR dn) V ∧ KT n₀ W V ∧ Lies W.heap.size #[.func (.yield l) #[] #[]] 93 V ∧ (∀ D ∈ ds, W.heap.size ≤ D ∧ V.heap[D]? = some (.deferred (some []))) ∧ ds.Nodup ∧
      a = { tmps := #[.func (.yield l) #[] #[], .pointer (some ⟨B, 0, none⟩), .pointer (some ⟨W.heap.size, 0, none⟩), .pointer p, undef, undef, .pointer q, u7, u8, u9, u10, u11, u12, u13, u14, u15, u16, u17, undef, undef, undef, undef, undef, undef], defers := ds.map fun D => { target := .collected D, args := #[] } })
    (fun a V => ringsLeft V (a.tmps.getD 3 undef)) ?start ?round
  case start =>
    refine ⟨[], rs, q, [], undef, undef, undef, undef, undef, undef, undef, undef, undef, undef, undef, rfl, hRW.keep ((Below.refl _ W).alloc (by omega) _), ?_, KT.of_below ((Below.refl _ W).alloc (Nat.le_refl _) _) (by omega), Lies.new W _ _, fun D hD => by simp at hD, by simp, rfl⟩
    exact hJ.alloc _ h0
  case round =>
    rintro a V ⟨dn, rest, p, ds, u7, u8, u9, u10, u11, u12, u13, u14, u15, u16, u17, hrs, hRV, hJV, hkt, LY, hds, hnd, rfl⟩
    cases rest with
    | nil =>
      obtain rfl : p = none := hRV
      gi_wp2
      rw [List.append_nil] at hrs
      subst hrs
      exact leaves_marks (fun V => J (edgR rs) V) W.heap.size (fun V D o hBD hD hj => hJ.putObj _ hj hBD hD rfl) (fun V hg => ⟨_, results_none rfl _ _ _, ⟨_, rfl⟩, .inl hg⟩) ds V hnd hds hJV
    | cons y ys =>
      obtain ⟨b, q', t, rfl, hb, hL, hyl, hP, hr⟩ := hRV
      obtain ⟨c0, c1, _, _⟩ := lies2 hL
      have zV := hkt.1.size
      have hdsV : ∀ D ∈ ds, D < V.heap.size := fun D hD => (Array.getElem?_eq_some_iff.1 (hds D hD).2).1
      gi_wp2_with (refine ⟨trivial, ?_⟩; gi_at_call 87; refine (edges_in (n - 1) _ _ _ _).mono ?_; rintro e w' ⟨rfl, rfl⟩)
      have BL : Lies V.heap.size #[.slice y.a y.len y.cap] 29 (V.alloc (.cells #[.slice y.a y.len y.cap] 29)) := Lies.new V _ _
      have hBV : Below V.heap.size V (V.alloc (.cells #[.slice y.a y.len y.cap] 29)) := (by repeat (first | exact bw_refl _ | assumption | apply bw_drewN | apply bw_drew | apply bw_alloc | refine bw_set ?_ (by simp) _))
      have hJ2 : J (edgR dn) (V.alloc (.cells #[.slice y.a y.len y.cap] 29)) := hJ.alloc _ hJV
      have LY2 := LY.below hBV
      have hds2 : ∀ D ∈ ds, W.heap.size ≤ D ∧ (V.alloc (.cells #[.slice y.a y.len y.cap] 29)).heap[D]? = some (.deferred (some [])) := fun D hD => ⟨(hds D hD).1, (hBV.block D (hdsV D hD)).trans (hds D hD).2⟩
      have hP2 : Pts n₀ (V.alloc (.cells #[.slice y.a y.len y.cap] 29)) y.a y.len y.pts := hP.below (hBV.mono (by omega))
      have hK2 : KT n₀ V (V.alloc (.cells #[.slice y.a y.len y.cap] 29)) := KT.of_below hBV (by omega)
      have hsz : (V.alloc (.cells #[.slice y.a y.len y.cap] 29)).heap.size = V.heap.size + 1 := by simp
      obtain ⟨V2, hV2⟩ : ∃ V2, V.alloc (.cells #[.slice y.a y.len y.cap] 29) = V2 := ⟨_, rfl⟩
      rw [hV2] at BL hBV hJ2 LY2 hds2 hP2 hK2 hsz ⊢
      clear hV2
      have hst := edges_stops (n - 1) (by omega) V.heap.size n₀ y.a y.len y.cap y.pts V2 (by omega) (by omega) hyl BL.c1 hP2
      refine wpIn_rangeFunc_ownH rfl h1 (gf := 104) (lb := #[.pointer (some ⟨V.heap.size, 0, none⟩)]) rfl trivial (enters_of Tryz.func104 (by kernel_rfl) rfl)
        hst KB_t (KB_b (by omega) (by omega)) (Below.refl _ _) (fun _ => rfl)
        (fun pre V3 => (J (edgR dn ++ pre.map fun k => (ptAt y.pts k.1, ptAt y.pts (nxt y.pts k.1))) V3 ∧ Lies W.heap.size #[.func (.yield l) #[] #[]] 93 V3 ∧ Lies V.heap.size #[.slice y.a y.len y.cap] 29 V3 ∧ ∀ D ∈ ds, W.heap.size ≤ D ∧ V3.heap[D]? = some (.deferred (some []))) ∧ KT n₀ V V3)
        (fun c pre V3 => c = .ret ∧ Jx (edgR dn ++ pre.map fun k => (ptAt y.pts k.1, ptAt y.pts (nxt y.pts k.1))) V3 ∧ ∀ D ∈ ds, W.heap.size ≤ D ∧ V3.heap[D]? = some (.deferred (some [])))
        (fun s X Y row hs hg hr => ⟨⟨hJ _ X Y row hs.1.1 hg (fun r e => ⟨by have := (hr r e).1; omega, (hr r e).2⟩), lies_own (β := Unit) _ _ _ () X Y row hs.1.2.1 hg (fun r e => (hr r e).2), lies_own (β := Unit) _ _ _ () X Y row hs.1.2.2.1 hg (fun r e => (hr r e).2), fun D hD => ⟨(hs.1.2.2.2 D hD).1, (hg.block D (Array.getElem?_eq_some_iff.1 (hs.1.2.2.2 D hD).2).1 (fun e => by have := (hr D e.symm).1; have := hdsV D hD; omega)).trans (hs.1.2.2.2 D hD).2⟩⟩, ⟨ownFrom_below (β := Unit) (n₀ := n₀) (B := V2.heap.size) (w₀ := V) (by omega) (by omega) () X Y row hs.2.1 hg hr, fun k cs t ht h => (hg.block k (Array.getElem?_eq_some_iff.1 (hs.2.2 k cs t ht h)).1 (fun e => by obtain ⟨_, o, ho, hc⟩ := hr k e.symm; rw [hs.2.2 k cs t ht h] at ho; cases ho; cases hc)).trans (hs.2.2 k cs t ht h)⟩⟩)
        (fun c s X Y row hs hg hr => ⟨hs.1, hJx _ X Y row hs.2.1 hg (fun r e => ⟨by have := (hr r e).1; omega, (hr r e).2⟩), fun D hD => ⟨(hs.2.2 D hD).1, (hg.block D (Array.getElem?_eq_some_iff.1 (hs.2.2 D hD).2).1 (fun e => by have := (hr D e.symm).1; have := hdsV D hD; omega)).trans (hs.2.2 D hD).2⟩⟩)
        ⟨⟨by simpa using hJ2, LY2, BL, hds2⟩, hK2⟩
        (fun x a' V3 => ∃ Bx, Lies Bx #[.int .i64 (ptAt y.pts x.1).1, .int .i64 (ptAt y.pts x.1).2, .int .i64 (ptAt y.pts (nxt y.pts x.1)).1, .int .i64 (ptAt y.pts (nxt y.pts x.1)).2] 75 V3 ∧ a' = { tmps := #[.func (.yield l) #[] #[], .pointer (some ⟨B, 0, none⟩), .pointer (some ⟨W.heap.size, 0, none⟩), .pointer (some ⟨b, 0, none⟩), undef, .pointer (some ⟨Bx, 0, none⟩), .pointer q, .pointer (some ⟨b, 0, none⟩), .bool true, u9, u10, u11, u12, .pointer (some ⟨b, 0, none⟩), .pointer (some ⟨b, 0, none⟩), .pointer (some ⟨b, 0, none⟩), .slice y.a y.len y.cap, .func (.func 104) #[] #[.pointer (some ⟨V.heap.size, 0, none⟩)], .int .i64 (x.1 : Int), .agg #[.int .i64 (ptAt y.pts x.1).1, .int .i64 (ptAt y.pts x.1).2, .int .i64 (ptAt y.pts (nxt y.pts x.1)).1, .int .i64 (ptAt y.pts (nxt y.pts x.1)).2], undef, undef, undef, undef], defers := [] })
        (fun x a' _ X Y row hs hg hr => by obtain ⟨Bx, e2, e3⟩ := hs; exact ⟨Bx, lies_own (β := Unit) Bx _ _ () X Y row e2 hg (fun r e => (hr r e).2), e3⟩)
        ?assign ?body ?done ?stop
      case assign =>
        rintro l' pre x V3 K ⟨⟨hj, L1, L2, hd⟩, hk3⟩ hK
        unfold encE
        have zV3 := hk3.1.size
        have hB3 : Below V3.heap.size V3 (V3.alloc (.cells #[.int .i64 (ptAt y.pts x.1).1, .int .i64 (ptAt y.pts x.1).2, .int .i64 (ptAt y.pts (nxt y.pts x.1)).1, .int .i64 (ptAt y.pts (nxt y.pts x.1)).2] 75)) := (by repeat (first | exact bw_refl _ | assumption | apply bw_drewN | apply bw_drew | apply bw_alloc | refine bw_set ?_ (by simp) _))
        gi_wp2
        exact hK _ _ ((KeepsOthers.alloc _ _).from _) (KB.of_below hB3 (by omega) L2.lt) ⟨⟨hJ.alloc _ hj, L1.below hB3, L2.below hB3, fun D hD => ⟨(hd D hD).1, (hB3.block D (Array.getElem?_eq_some_iff.1 (hd D hD).2).1).trans (hd D hD).2⟩⟩, hk3.trans (KT.of_below hB3 (by omega))⟩ ⟨V3.heap.size, Lies.new V3 _ _, rfl⟩
      case body =>
        rintro l' pre x a' V3 hl2 ⟨r, hr'⟩ ⟨⟨hj, L1, L2, hd⟩, hk3⟩ ⟨Bx, bX, rfl⟩ hlt
        obtain ⟨k, hkk⟩ := x
        dsimp only at *
        have cY := L1.c1
        obtain ⟨cx0, cx1, cx2, cx3⟩ := bX.c4
        have hlen : (edgR dn ++ pre.map fun k => (ptAt y.pts k.1, ptAt y.pts (nxt y.pts k.1))).length < (edgR rs).length := by
          rw [hrs]; simp only [edgR, List.flatMap_append, List.flatMap_cons, List.length_append, List.length_map, segsL_len]; omega
        obtain ⟨fn, tmps, assign, body, hy, hRd⟩ := hY _ (ptAt y.pts k, ptAt y.pts (nxt y.pts k)) V3 hj hlen
        dsimp only [segE] at hy
        have hR2 := fun m' => roundIn_any (m' := m') hRd l'
        clear hRd
        gi_wp2_with fail
        refine ⟨fun _ => by omega, ?_⟩
        refine (hR2 _).mono ?_
        rintro e V4 ⟨yes, rfl, hkf4, hyes, hno⟩
        cases yes
        · have hx4 := hno rfl
          clear hyes hno
          gi_wp2
          refine ⟨keeps_far hkf4 (by omega), rfl, ?_, fun D hD => ⟨(hd D hD).1, hkf4.same D _ (hd D hD).1 (hd D hD).2 rfl⟩⟩
          rw [List.map_append, ← List.append_assoc]; exact hx4
        · obtain ⟨hj4, hk4⟩ := hyes rfl
          clear hyes hno
          have L2' := hk4.lies (.inl rfl) L2
          gi_wp2
          refine ⟨keeps_far hkf4 (by omega), ⟨hk4.1, L2'.trans L2.symm⟩, ⟨?_, hk4.lies (.inr rfl) L1, L2', fun D hD => ⟨(hd D hD).1, hkf4.same D _ (hd D hD).1 (hd D hD).2 rfl⟩⟩, hk3.trans hk4⟩
          rw [List.map_append, ← List.append_assoc]; exact hj4
      case done =>
        rintro D zs V3 hD rfl ⟨⟨hj, L1, L2, hd⟩, hk3⟩ hKD
        have hj' : J (edgR (dn ++ [y])) V3 := by
          rw [segsL_fin] at hj; simpa [edgR] using hj
        clear hj
        obtain ⟨c0', c1', _, _⟩ := lies2 (show Lies b #[.slice y.a y.len y.cap, .pointer q'] t V3 from (hk3.1.block b hb).trans hL)
        gi_wp2
        have hRn := hr.keep hk3.1
        refine ⟨⟨dn ++ [y], ys, q', D :: ds, _, _, _, _, _, _, _, _, _, _, _, by simp [hrs], hRn, hj', hkt.trans hk3, L1, ?_, ?_, rfl⟩, ?_⟩
        · intro E hE
          rcases List.mem_cons.1 hE with rfl | hE
          · exact ⟨by omega, hKD⟩
          · exact hd E hE
        · rw [List.nodup_cons]
          exact ⟨fun h => by have := hdsV D h; omega, hnd⟩
        · show ringsLeft V3 (.pointer q') < ringsLeft V (.pointer (some ⟨b, 0, none⟩))
          rw [ringsLeft_eq hRn.ringL, ringsLeft_eq (xs := y :: ys) ⟨b, q', t, rfl, hL, hyl, hP, hr.ringL⟩]; simp
      case stop =>
        rintro D c pre V3 hD ⟨k, hk, rfl⟩ ⟨rfl, hx, hd⟩ hK
        have hq0 : (edgR dn ++ (upto y.pts.length k).map fun k => (ptAt y.pts k.1, ptAt y.pts (nxt y.pts k.1))) <+: edgR rs := by
          rw [hrs]
          have e : edgR (dn ++ y :: ys) = edgR dn ++ (segsL y.pts ++ edgR ys) := by simp [edgR]
          rw [e, List.prefix_append_right_inj, ← segsL_fin]
          exact ((List.take_prefix k _).map _).trans (List.prefix_append _ _)
        gi_wp2
        refine leaves_marks (fun V => ∃ pre, pre <+: edgR rs ∧ Jx pre V) W.heap.size (fun V D o hBD hD hj => hj.imp fun q hq => ⟨hq.1, hJx.putObj _ hq.2 hBD hD rfl⟩) (fun V hg => ⟨_, results_none rfl _ _ _, ⟨_, rfl⟩, .inr hg⟩) (D :: ds) V3 ?_ ?_ ⟨_, hq0, hx⟩
        · rw [List.nodup_cons]
          exact ⟨fun h => by have := hdsV D h; omega, hnd⟩
        · intro E hE
          rcases List.mem_cons.1 hE with rfl | hE
          · exact ⟨by omega, hK⟩
          · exact hd E hE
end Go.Proofs.YtkncejcpeejkkaaGreatDoor
namespace Go.Proofs.YtkncejcpeejkkaaGreatDoor
open Go.RowKit Go.Sort

theorem cmpI_lt (x y : Int) (h : x < y) : cmpI x y = -1 := by unfold cmpI; rw [if_pos h]
theorem cmpI_ge (x y : Int) (h : ¬ x < y) : ¬ cmpI x y < 0 := by unfold cmpI; rw [if_neg h]; split <;> omega
/-- The block of three fractions. -/
def Three (w : World) (b : Nat) (f g h : Int × Int) : Prop := w.heap[b]? = some (.cells #[.int .i64 f.1, .int .i64 f.2, .int .i64 g.1, .int .i64 g.2, .int .i64 h.1, .int .i64 h.2] 61 (0, 0))
theorem setO2 {w : World} {b b' i j : Nat} {v u : Value} {o : Obj} (h : w.heap[b']? = some o) (hne : b' ≠ b) : ((w.setCell ⟨b, i, none⟩ v).setCell ⟨b, j, none⟩ u).heap[b']? = some o := by
  rw [Below.heap_setCell _ _ _ _ (by show b' ≠ b; exact hne), Below.heap_setCell _ _ _ _ (by show b' ≠ b; exact hne)]; exact h
theorem blk_6 {w : World} {b : Nat} {x0 x1 x2 x3 x4 x5 : Value} {t : TypeId} (h : w.heap[b]? = some (.cells #[x0, x1, x2, x3, x4, x5] t (0, 0))) :
    w.cell? ⟨b, 0, none⟩ = some x0 ∧ w.cell? ⟨b, 1, none⟩ = some x1 ∧ w.cell? ⟨b, 2, none⟩ = some x2 ∧ w.cell? ⟨b, 3, none⟩ = some x3 ∧ w.cell? ⟨b, 4, none⟩ = some x4 ∧ w.cell? ⟨b, 5, none⟩ = some x5 := by
  refine ⟨?_, ?_, ?_, ?_, ?_, ?_⟩ <;> simp [World.cell?, h]
set_option maxHeartbeats 2000000 in
theorem least_ok (f0 f1 f2 f3 : Int × Int) (bs : Nat) (ad : Addr) (w : World) (h0 : Sent ad w) (o0 : OkF f0) (o1 : OkF f1) (o2 : OkF f2) (o3 : OkF f3) (TH : Three w bs f1 f2 f3) :
    Calls Tryz.prog 68 #[.agg #[.int .i64 f0.1, .int .i64 f0.2], .slice (some ⟨bs, 0, none⟩) 3 3] w fun e w' => e = .returned (.agg #[.int .i64 (mnA f0 f1 f2 f3).1, .int .i64 (mnA f0 f1 f2 f3).2]) ∧ Below w.heap.size w w' := by
  unfold Three at TH
  have zb := blk_lt TH
  obtain ⟨W, hW, H, _, RB, LB⟩ := boxes3 w (.cells #[.int .i64 f0.1, .int .i64 f0.2] 61) (.cells #[.int .i64 0, .int .i64 0] 61) (.cells #[.int .i64 f0.1, .int .i64 f0.2] 61)
  replace TH := keep H TH
  have nb : bs ≠ w.heap.size + 1 ∧ bs ≠ w.heap.size + 2 := by omega
  obtain ⟨nb1, nb2⟩ := nb
  go_enter Tryz.func68, Tryz.ntmps68
  go_upto_region 3 with fail
  rw [← hW]
  clear hW
  refine wp_loop_rounds 4 ?_
  rw [rounds_succ]
  obtain ⟨t0, t1, t2, t3, t4, t5⟩ := blk_6 TH
  obtain ⟨l0, l1⟩ := blk_2 LB
  have zl := blk_lt LB
  have zt := blk_lt TH
  have hs1 := h0.below H
  by_cases c1 : f1.1 * f0.2 < f0.1 * f1.2
  · have m1 : mn f0 f1 = f1 := if_pos c1
    have e1 := cmpI_lt _ _ c1
    clear c1
    go_wp2_with fail
    refine (fracCmp_both f1.1 f1.2 f0.1 f0.2 ad _ (hs1.below (bw_alloc (bw_refl _) _)) o1 o0).mono ?_
    rw [e1]
    rintro e w1 ⟨rfl, K⟩
    have FB := keep K (heap_new _ _)
    replace LB := keep K ((heap_old _ _ (blk_lt LB)).trans LB)
    replace RB := keep K ((heap_old _ _ (blk_lt RB)).trans RB)
    replace TH := keep K ((heap_old _ _ (blk_lt TH)).trans TH)
    replace H := bw_trans (bw_alloc H _) K
    clear t0 t1 t2 t3 t4 t5 l0 l1 K hs1
    have zf := blk_lt FB
    have zl1 := blk_lt LB
    obtain ⟨u0, u1⟩ := blk_2 FB
    obtain ⟨q0, q1, qf0, qf1⟩ := blkF LB
    go_wp2_with fail
    replace LB := setF2 LB (u0 := .int .i64 f1.1) (u1 := .int .i64 f1.2)
    replace RB := setO2 RB (b := w.heap.size + 2) (i := 0) (j := 1) (v := .int .i64 f1.1) (u := .int .i64 f1.2) (by omega)
    replace TH := setO2 TH (b := w.heap.size + 2) (i := 0) (j := 1) (v := .int .i64 f1.1) (u := .int .i64 f1.2) (by omega)
    replace H := bw_set (bw_set H (p := ⟨w.heap.size + 2, 0, none⟩) (by dsimp only; omega) (.int .i64 f1.1)) (p := ⟨w.heap.size + 2, 1, none⟩) (by dsimp only; omega) (.int .i64 f1.2)
    clear q0 q1 qf0 qf1 e1
    generalize ((w1.setCell ⟨w.heap.size + 2, 0, none⟩ (.int .i64 f1.1)).setCell ⟨w.heap.size + 2, 1, none⟩ (.int .i64 f1.2)) = V1 at LB RB TH H ⊢
    clear u0 u1 FB zf zl zl1 zt
    rw [rounds_succ]
    obtain ⟨t0, t1, t2, t3, t4, t5⟩ := blk_6 TH
    obtain ⟨l0, l1⟩ := blk_2 LB
    have zl := blk_lt LB
    have zt := blk_lt TH
    have hs2 := h0.below H
    by_cases c2 : f2.1 * f1.2 < f1.1 * f2.2
    · have m2 : mn f1 f2 = f2 := if_pos c2
      have e2 := cmpI_lt _ _ c2
      clear c2
      go_wp2_with fail
      refine (fracCmp_both f2.1 f2.2 f1.1 f1.2 ad _ (hs2.below (bw_alloc (bw_refl _) _)) o2 o1).mono ?_
      rw [e2]
      rintro e w2 ⟨rfl, K⟩
      have FB := keep K (heap_new _ _)
      replace LB := keep K ((heap_old _ _ (blk_lt LB)).trans LB)
      replace RB := keep K ((heap_old _ _ (blk_lt RB)).trans RB)
      replace TH := keep K ((heap_old _ _ (blk_lt TH)).trans TH)
      replace H := bw_trans (bw_alloc H _) K
      clear t0 t1 t2 t3 t4 t5 l0 l1 K hs2
      have zf := blk_lt FB
      have zl2 := blk_lt LB
      obtain ⟨u0, u1⟩ := blk_2 FB
      obtain ⟨q0, q1, qf0, qf1⟩ := blkF LB
      go_wp2_with fail
      replace LB := setF2 LB (u0 := .int .i64 f2.1) (u1 := .int .i64 f2.2)
      replace RB := setO2 RB (b := w.heap.size + 2) (i := 0) (j := 1) (v := .int .i64 f2.1) (u := .int .i64 f2.2) (by omega)
      replace TH := setO2 TH (b := w.heap.size + 2) (i := 0) (j := 1) (v := .int .i64 f2.1) (u := .int .i64 f2.2) (by omega)
      replace H := bw_set (bw_set H (p := ⟨w.heap.size + 2, 0, none⟩) (by dsimp only; omega) (.int .i64 f2.1)) (p := ⟨w.heap.size + 2, 1, none⟩) (by dsimp only; omega) (.int .i64 f2.2)
      clear q0 q1 qf0 qf1 e2
      generalize ((w2.setCell ⟨w.heap.size + 2, 0, none⟩ (.int .i64 f2.1)).setCell ⟨w.heap.size + 2, 1, none⟩ (.int .i64 f2.2)) = V2 at LB RB TH H ⊢
      clear u0 u1 FB zf zl zl2 zt
      rw [rounds_succ]
      obtain ⟨t0, t1, t2, t3, t4, t5⟩ := blk_6 TH
      obtain ⟨l0, l1⟩ := blk_2 LB
      have zl := blk_lt LB
      have zt := blk_lt TH
      have hs3 := h0.below H
      by_cases c3 : f3.1 * f2.2 < f2.1 * f3.2
      · have m3 : mn f2 f3 = f3 := if_pos c3
        have e3 := cmpI_lt _ _ c3
        clear c3
        go_wp2_with fail
        refine (fracCmp_both f3.1 f3.2 f2.1 f2.2 ad _ (hs3.below (bw_alloc (bw_refl _) _)) o3 o2).mono ?_
        rw [e3]
        rintro e w3 ⟨rfl, K⟩
        have FB := keep K (heap_new _ _)
        replace LB := keep K ((heap_old _ _ (blk_lt LB)).trans LB)
        replace RB := keep K ((heap_old _ _ (blk_lt RB)).trans RB)
        replace TH := keep K ((heap_old _ _ (blk_lt TH)).trans TH)
        replace H := bw_trans (bw_alloc H _) K
        clear t0 t1 t2 t3 t4 t5 l0 l1 K hs3
        have zf := blk_lt FB
        have zl3 := blk_lt LB
        obtain ⟨u0, u1⟩ := blk_2 FB
        obtain ⟨q0, q1, qf0, qf1⟩ := blkF LB
        go_wp2_with fail
        replace LB := setF2 LB (u0 := .int .i64 f3.1) (u1 := .int .i64 f3.2)
        replace RB := setO2 RB (b := w.heap.size + 2) (i := 0) (j := 1) (v := .int .i64 f3.1) (u := .int .i64 f3.2) (by omega)
        replace TH := setO2 TH (b := w.heap.size + 2) (i := 0) (j := 1) (v := .int .i64 f3.1) (u := .int .i64 f3.2) (by omega)
        replace H := bw_set (bw_set H (p := ⟨w.heap.size + 2, 0, none⟩) (by dsimp only; omega) (.int .i64 f3.1)) (p := ⟨w.heap.size + 2, 1, none⟩) (by dsimp only; omega) (.int .i64 f3.2)
        clear q0 q1 qf0 qf1 e3
        generalize ((w3.setCell ⟨w.heap.size + 2, 0, none⟩ (.int .i64 f3.1)).setCell ⟨w.heap.size + 2, 1, none⟩ (.int .i64 f3.2)) = V3 at LB RB TH H ⊢
        clear u0 u1 FB zf zl zl3 zt
        rw [rounds_succ]
        obtain ⟨l0, l1⟩ := blk_2 LB
        have zl := blk_lt LB
        have zr := blk_lt RB
        obtain ⟨q0, q1, qf0, qf1⟩ := blkF RB
        have R2 := setF2 RB (u0 := .int .i64 f3.1) (u1 := .int .i64 f3.2)
        obtain ⟨r0, r1⟩ := blk_2 R2
        have HB : Hid _ := H
        have e1 : Hid (mnA f0 f1 f2 f3 = f3) := by change _ = _; unfold mnA; rw [m1, m2, m3]
        clear R2 RB LB TH H m1 m2 m3
        go_wp2_with fail
        exact bodyPost_ret (v := .agg #[.int .i64 f3.1, .int .i64 f3.2]) (by simp [results, Tryz.results68, go_sem, r0, r1]) rfl ⟨by rw [e1.out], by repeat (first | with_reducible exact HB.out | with_reducible refine bw_set ?_ (by dsimp only; omega) _)⟩
      · have m3 : mn f2 f3 = f2 := if_neg c3
        have g3 := cmpI_ge _ _ c3
        generalize hx3 : cmpI (f3.1 * f2.2) (f2.1 * f3.2) = x3 at g3
        have HX3 : Hid (cmpI (f3.1 * f2.2) (f2.1 * f3.2) = x3) := hx3
        have p3 : 0 ≤ x3 := by omega
        clear hx3 g3
        clear c3
        go_wp2_with fail
        refine (fracCmp_both f3.1 f3.2 f2.1 f2.2 ad _ (hs3.below (bw_alloc (bw_refl _) _)) o3 o2).mono ?_
        rw [HX3.out]
        rintro e w3 ⟨rfl, K⟩
        have FB := keep K (heap_new _ _)
        replace LB := keep K ((heap_old _ _ (blk_lt LB)).trans LB)
        replace RB := keep K ((heap_old _ _ (blk_lt RB)).trans RB)
        replace TH := keep K ((heap_old _ _ (blk_lt TH)).trans TH)
        replace H := bw_trans (bw_alloc H _) K
        clear t0 t1 t2 t3 t4 t5 l0 l1 K hs3
        have zf := blk_lt FB
        have zl3 := blk_lt LB
        obtain ⟨u0, u1⟩ := blk_2 FB
        go_wp2_with fail
        clear u0 u1 FB zf zl zl3 zt
        rw [rounds_succ]
        obtain ⟨l0, l1⟩ := blk_2 LB
        have zl := blk_lt LB
        have zr := blk_lt RB
        obtain ⟨q0, q1, qf0, qf1⟩ := blkF RB
        have R2 := setF2 RB (u0 := .int .i64 f2.1) (u1 := .int .i64 f2.2)
        obtain ⟨r0, r1⟩ := blk_2 R2
        have HB : Hid _ := H
        have e1 : Hid (mnA f0 f1 f2 f3 = f2) := by change _ = _; unfold mnA; rw [m1, m2, m3]
        clear R2 RB LB TH H m1 m2 m3
        go_wp2_with fail
        exact bodyPost_ret (v := .agg #[.int .i64 f2.1, .int .i64 f2.2]) (by simp [results, Tryz.results68, go_sem, r0, r1]) rfl ⟨by rw [e1.out], by repeat (first | with_reducible exact HB.out | with_reducible refine bw_set ?_ (by dsimp only; omega) _)⟩
    · have m2 : mn f1 f2 = f1 := if_neg c2
      have g2 := cmpI_ge _ _ c2
      generalize hx2 : cmpI (f2.1 * f1.2) (f1.1 * f2.2) = x2 at g2
      have HX2 : Hid (cmpI (f2.1 * f1.2) (f1.1 * f2.2) = x2) := hx2
      have p2 : 0 ≤ x2 := by omega
      clear hx2 g2
      clear c2
      go_wp2_with fail
      refine (fracCmp_both f2.1 f2.2 f1.1 f1.2 ad _ (hs2.below (bw_alloc (bw_refl _) _)) o2 o1).mono ?_
      rw [HX2.out]
      rintro e w2 ⟨rfl, K⟩
      have FB := keep K (heap_new _ _)
      replace LB := keep K ((heap_old _ _ (blk_lt LB)).trans LB)
      replace RB := keep K ((heap_old _ _ (blk_lt RB)).trans RB)
      replace TH := keep K ((heap_old _ _ (blk_lt TH)).trans TH)
      replace H := bw_trans (bw_alloc H _) K
      clear t0 t1 t2 t3 t4 t5 l0 l1 K hs2
      have zf := blk_lt FB
      have zl2 := blk_lt LB
      obtain ⟨u0, u1⟩ := blk_2 FB
      go_wp2_with fail
      clear u0 u1 FB zf zl zl2 zt
      rw [rounds_succ]
      obtain ⟨t0, t1, t2, t3, t4, t5⟩ := blk_6 TH
      obtain ⟨l0, l1⟩ := blk_2 LB
      have zl := blk_lt LB
      have zt := blk_lt TH
      have hs3 := h0.below H
      by_cases c3 : f3.1 * f1.2 < f1.1 * f3.2
      · have m3 : mn f1 f3 = f3 := if_pos c3
        have e3 := cmpI_lt _ _ c3
        clear c3
        go_wp2_with fail
        refine (fracCmp_both f3.1 f3.2 f1.1 f1.2 ad _ (hs3.below (bw_alloc (bw_refl _) _)) o3 o1).mono ?_
        rw [e3]
        rintro e w3 ⟨rfl, K⟩
        have FB := keep K (heap_new _ _)
        replace LB := keep K ((heap_old _ _ (blk_lt LB)).trans LB)
        replace RB := keep K ((heap_old _ _ (blk_lt RB)).trans RB)
        replace TH := keep K ((heap_old _ _ (blk_lt TH)).trans TH)
        replace H := bw_trans (bw_alloc H _) K
        clear t0 t1 t2 t3 t4 t5 l0 l1 K hs3
        have zf := blk_lt FB
        have zl3 := blk_lt LB
        obtain ⟨u0, u1⟩ := blk_2 FB
        obtain ⟨q0, q1, qf0, qf1⟩ := blkF LB
        go_wp2_with fail
        replace LB := setF2 LB (u0 := .int .i64 f3.1) (u1 := .int .i64 f3.2)
        replace RB := setO2 RB (b := w.heap.size + 2) (i := 0) (j := 1) (v := .int .i64 f3.1) (u := .int .i64 f3.2) (by omega)
        replace TH := setO2 TH (b := w.heap.size + 2) (i := 0) (j := 1) (v := .int .i64 f3.1) (u := .int .i64 f3.2) (by omega)
        replace H := bw_set (bw_set H (p := ⟨w.heap.size + 2, 0, none⟩) (by dsimp only; omega) (.int .i64 f3.1)) (p := ⟨w.heap.size + 2, 1, none⟩) (by dsimp only; omega) (.int .i64 f3.2)
        clear q0 q1 qf0 qf1 e3
        generalize ((w3.setCell ⟨w.heap.size + 2, 0, none⟩ (.int .i64 f3.1)).setCell ⟨w.heap.size + 2, 1, none⟩ (.int .i64 f3.2)) = V3 at LB RB TH H ⊢
        clear u0 u1 FB zf zl zl3 zt
        rw [rounds_succ]
        obtain ⟨l0, l1⟩ := blk_2 LB
        have zl := blk_lt LB
        have zr := blk_lt RB
        obtain ⟨q0, q1, qf0, qf1⟩ := blkF RB
        have R2 := setF2 RB (u0 := .int .i64 f3.1) (u1 := .int .i64 f3.2)
        obtain ⟨r0, r1⟩ := blk_2 R2
        have HB : Hid _ := H
        have e1 : Hid (mnA f0 f1 f2 f3 = f3) := by change _ = _; unfold mnA; rw [m1, m2, m3]
        clear R2 RB LB TH H m1 m2 m3
        go_wp2_with fail
        exact bodyPost_ret (v := .agg #[.int .i64 f3.1, .int .i64 f3.2]) (by simp [results, Tryz.results68, go_sem, r0, r1]) rfl ⟨by rw [e1.out], by repeat (first | with_reducible exact HB.out | with_reducible refine bw_set ?_ (by dsimp only; omega) _)⟩
      · have m3 : mn f1 f3 = f1 := if_neg c3
        have g3 := cmpI_ge _ _ c3
        generalize hx3 : cmpI (f3.1 * f1.2) (f1.1 * f3.2) = x3 at g3
        have HX3 : Hid (cmpI (f3.1 * f1.2) (f1.1 * f3.2) = x3) := hx3
        have p3 : 0 ≤ x3 := by omega
        clear hx3 g3
        clear c3
        go_wp2_with fail
        refine (fracCmp_both f3.1 f3.2 f1.1 f1.2 ad _ (hs3.below (bw_alloc (bw_refl _) _)) o3 o1).mono ?_
        rw [HX3.out]
        rintro e w3 ⟨rfl, K⟩
        have FB := keep K (heap_new _ _)
        replace LB := keep K ((heap_old _ _ (blk_lt LB)).trans LB)
        replace RB := keep K ((heap_old _ _ (blk_lt RB)).trans RB)
        replace TH := keep K ((heap_old _ _ (blk_lt TH)).trans TH)
        replace H := bw_trans (bw_alloc H _) K
        clear t0 t1 t2 t3 t4 t5 l0 l1 K hs3
        have zf := blk_lt FB
        have zl3 := blk_lt LB
        obtain ⟨u0, u1⟩ := blk_2 FB
        go_wp2_with fail
        clear u0 u1 FB zf zl zl3 zt
        rw [rounds_succ]
        obtain ⟨l0, l1⟩ := blk_2 LB
        have zl := blk_lt LB
        have zr := blk_lt RB
        obtain ⟨q0, q1, qf0, qf1⟩ := blkF RB
        have R2 := setF2 RB (u0 := .int .i64 f1.1) (u1 := .int .i64 f1.2)
        obtain ⟨r0, r1⟩ := blk_2 R2
        have HB : Hid _ := H
        have e1 : Hid (mnA f0 f1 f2 f3 = f1) := by change _ = _; unfold mnA; rw [m1, m2, m3]
        clear R2 RB LB TH H m1 m2 m3
        go_wp2_with fail
        exact bodyPost_ret (v := .agg #[.int .i64 f1.1, .int .i64 f1.2]) (by simp [results, Tryz.results68, go_sem, r0, r1]) rfl ⟨by rw [e1.out], by repeat (first | with_reducible exact HB.out | with_reducible refine bw_set ?_ (by dsimp only; omega) _)⟩
  · have m1 : mn f0 f1 = f0 := if_neg c1
    have g1 := cmpI_ge _ _ c1
    generalize hx1 : cmpI (f1.1 * f0.2) (f0.1 * f1.2) = x1 at g1
    have HX1 : Hid (cmpI (f1.1 * f0.2) (f0.1 * f1.2) = x1) := hx1
    have p1 : 0 ≤ x1 := by omega
    clear hx1 g1
    clear c1
    go_wp2_with fail
    refine (fracCmp_both f1.1 f1.2 f0.1 f0.2 ad _ (hs1.below (bw_alloc (bw_refl _) _)) o1 o0).mono ?_
    rw [HX1.out]
    rintro e w1 ⟨rfl, K⟩
    have FB := keep K (heap_new _ _)
    replace LB := keep K ((heap_old _ _ (blk_lt LB)).trans LB)
    replace RB := keep K ((heap_old _ _ (blk_lt RB)).trans RB)
    replace TH := keep K ((heap_old _ _ (blk_lt TH)).trans TH)
    replace H := bw_trans (bw_alloc H _) K
    clear t0 t1 t2 t3 t4 t5 l0 l1 K hs1
    have zf := blk_lt FB
    have zl1 := blk_lt LB
    obtain ⟨u0, u1⟩ := blk_2 FB
    go_wp2_with fail
    clear u0 u1 FB zf zl zl1 zt
    rw [rounds_succ]
    obtain ⟨t0, t1, t2, t3, t4, t5⟩ := blk_6 TH
    obtain ⟨l0, l1⟩ := blk_2 LB
    have zl := blk_lt LB
    have zt := blk_lt TH
    have hs2 := h0.below H
    by_cases c2 : f2.1 * f0.2 < f0.1 * f2.2
    · have m2 : mn f0 f2 = f2 := if_pos c2
      have e2 := cmpI_lt _ _ c2
      clear c2
      go_wp2_with fail
      refine (fracCmp_both f2.1 f2.2 f0.1 f0.2 ad _ (hs2.below (bw_alloc (bw_refl _) _)) o2 o0).mono ?_
      rw [e2]
      rintro e w2 ⟨rfl, K⟩
      have FB := keep K (heap_new _ _)
      replace LB := keep K ((heap_old _ _ (blk_lt LB)).trans LB)
      replace RB := keep K ((heap_old _ _ (blk_lt RB)).trans RB)
      replace TH := keep K ((heap_old _ _ (blk_lt TH)).trans TH)
      replace H := bw_trans (bw_alloc H _) K
      clear t0 t1 t2 t3 t4 t5 l0 l1 K hs2
      have zf := blk_lt FB
      have zl2 := blk_lt LB
      obtain ⟨u0, u1⟩ := blk_2 FB
      obtain ⟨q0, q1, qf0, qf1⟩ := blkF LB
      go_wp2_with fail
      replace LB := setF2 LB (u0 := .int .i64 f2.1) (u1 := .int .i64 f2.2)
      replace RB := setO2 RB (b := w.heap.size + 2) (i := 0) (j := 1) (v := .int .i64 f2.1) (u := .int .i64 f2.2) (by omega)
      replace TH := setO2 TH (b := w.heap.size + 2) (i := 0) (j := 1) (v := .int .i64 f2.1) (u := .int .i64 f2.2) (by omega)
      replace H := bw_set (bw_set H (p := ⟨w.heap.size + 2, 0, none⟩) (by dsimp only; omega) (.int .i64 f2.1)) (p := ⟨w.heap.size + 2, 1, none⟩) (by dsimp only; omega) (.int .i64 f2.2)
      clear q0 q1 qf0 qf1 e2
      generalize ((w2.setCell ⟨w.heap.size + 2, 0, none⟩ (.int .i64 f2.1)).setCell ⟨w.heap.size + 2, 1, none⟩ (.int .i64 f2.2)) = V2 at LB RB TH H ⊢
      clear u0 u1 FB zf zl zl2 zt
      rw [rounds_succ]
      obtain ⟨t0, t1, t2, t3, t4, t5⟩ := blk_6 TH
      obtain ⟨l0, l1⟩ := blk_2 LB
      have zl := blk_lt LB
      have zt := blk_lt TH
      have hs3 := h0.below H
      by_cases c3 : f3.1 * f2.2 < f2.1 * f3.2
      · have m3 : mn f2 f3 = f3 := if_pos c3
        have e3 := cmpI_lt _ _ c3
        clear c3
        go_wp2_with fail
        refine (fracCmp_both f3.1 f3.2 f2.1 f2.2 ad _ (hs3.below (bw_alloc (bw_refl _) _)) o3 o2).mono ?_
        rw [e3]
        rintro e w3 ⟨rfl, K⟩
        have FB := keep K (heap_new _ _)
        replace LB := keep K ((heap_old _ _ (blk_lt LB)).trans LB)
        replace RB := keep K ((heap_old _ _ (blk_lt RB)).trans RB)
        replace TH := keep K ((heap_old _ _ (blk_lt TH)).trans TH)
        replace H := bw_trans (bw_alloc H _) K
        clear t0 t1 t2 t3 t4 t5 l0 l1 K hs3
        have zf := blk_lt FB
        have zl3 := blk_lt LB
        obtain ⟨u0, u1⟩ := blk_2 FB
        obtain ⟨q0, q1, qf0, qf1⟩ := blkF LB
        go_wp2_with fail
        replace LB := setF2 LB (u0 := .int .i64 f3.1) (u1 := .int .i64 f3.2)
        replace RB := setO2 RB (b := w.heap.size + 2) (i := 0) (j := 1) (v := .int .i64 f3.1) (u := .int .i64 f3.2) (by omega)
        replace TH := setO2 TH (b := w.heap.size + 2) (i := 0) (j := 1) (v := .int .i64 f3.1) (u := .int .i64 f3.2) (by omega)
        replace H := bw_set (bw_set H (p := ⟨w.heap.size + 2, 0, none⟩) (by dsimp only; omega) (.int .i64 f3.1)) (p := ⟨w.heap.size + 2, 1, none⟩) (by dsimp only; omega) (.int .i64 f3.2)
        clear q0 q1 qf0 qf1 e3
        generalize ((w3.setCell ⟨w.heap.size + 2, 0, none⟩ (.int .i64 f3.1)).setCell ⟨w.heap.size + 2, 1, none⟩ (.int .i64 f3.2)) = V3 at LB RB TH H ⊢
        clear u0 u1 FB zf zl zl3 zt
        rw [rounds_succ]
        obtain ⟨l0, l1⟩ := blk_2 LB
        have zl := blk_lt LB
        have zr := blk_lt RB
        obtain ⟨q0, q1, qf0, qf1⟩ := blkF RB
        have R2 := setF2 RB (u0 := .int .i64 f3.1) (u1 := .int .i64 f3.2)
        obtain ⟨r0, r1⟩ := blk_2 R2
        have HB : Hid _ := H
        have e1 : Hid (mnA f0 f1 f2 f3 = f3) := by change _ = _; unfold mnA; rw [m1, m2, m3]
        clear R2 RB LB TH H m1 m2 m3
        go_wp2_with fail
        exact bodyPost_ret (v := .agg #[.int .i64 f3.1, .int .i64 f3.2]) (by simp [results, Tryz.results68, go_sem, r0, r1]) rfl ⟨by rw [e1.out], by repeat (first | with_reducible exact HB.out | with_reducible refine bw_set ?_ (by dsimp only; omega) _)⟩
      · have m3 : mn f2 f3 = f2 := if_neg c3
        have g3 := cmpI_ge _ _ c3
        generalize hx3 : cmpI (f3.1 * f2.2) (f2.1 * f3.2) = x3 at g3
        have HX3 : Hid (cmpI (f3.1 * f2.2) (f2.1 * f3.2) = x3) := hx3
        have p3 : 0 ≤ x3 := by omega
        clear hx3 g3
        clear c3
        go_wp2_with fail
        refine (fracCmp_both f3.1 f3.2 f2.1 f2.2 ad _ (hs3.below (bw_alloc (bw_refl _) _)) o3 o2).mono ?_
        rw [HX3.out]
        rintro e w3 ⟨rfl, K⟩
        have FB := keep K (heap_new _ _)
        replace LB := keep K ((heap_old _ _ (blk_lt LB)).trans LB)
        replace RB := keep K ((heap_old _ _ (blk_lt RB)).trans RB)
        replace TH := keep K ((heap_old _ _ (blk_lt TH)).trans TH)
        replace H := bw_trans (bw_alloc H _) K
        clear t0 t1 t2 t3 t4 t5 l0 l1 K hs3
        have zf := blk_lt FB
        have zl3 := blk_lt LB
        obtain ⟨u0, u1⟩ := blk_2 FB
        go_wp2_with fail
        clear u0 u1 FB zf zl zl3 zt
        rw [rounds_succ]
        obtain ⟨l0, l1⟩ := blk_2 LB
        have zl := blk_lt LB
        have zr := blk_lt RB
        obtain ⟨q0, q1, qf0, qf1⟩ := blkF RB
        have R2 := setF2 RB (u0 := .int .i64 f2.1) (u1 := .int .i64 f2.2)
        obtain ⟨r0, r1⟩ := blk_2 R2
        have HB : Hid _ := H
        have e1 : Hid (mnA f0 f1 f2 f3 = f2) := by change _ = _; unfold mnA; rw [m1, m2, m3]
        clear R2 RB LB TH H m1 m2 m3
        go_wp2_with fail
        exact bodyPost_ret (v := .agg #[.int .i64 f2.1, .int .i64 f2.2]) (by simp [results, Tryz.results68, go_sem, r0, r1]) rfl ⟨by rw [e1.out], by repeat (first | with_reducible exact HB.out | with_reducible refine bw_set ?_ (by dsimp only; omega) _)⟩
    · have m2 : mn f0 f2 = f0 := if_neg c2
      have g2 := cmpI_ge _ _ c2
      generalize hx2 : cmpI (f2.1 * f0.2) (f0.1 * f2.2) = x2 at g2
      have HX2 : Hid (cmpI (f2.1 * f0.2) (f0.1 * f2.2) = x2) := hx2
      have p2 : 0 ≤ x2 := by omega
      clear hx2 g2
      clear c2
      go_wp2_with fail
      refine (fracCmp_both f2.1 f2.2 f0.1 f0.2 ad _ (hs2.below (bw_alloc (bw_refl _) _)) o2 o0).mono ?_
      rw [HX2.out]
      rintro e w2 ⟨rfl, K⟩
      have FB := keep K (heap_new _ _)
      replace LB := keep K ((heap_old _ _ (blk_lt LB)).trans LB)
      replace RB := keep K ((heap_old _ _ (blk_lt RB)).trans RB)
      replace TH := keep K ((heap_old _ _ (blk_lt TH)).trans TH)
      replace H := bw_trans (bw_alloc H _) K
      clear t0 t1 t2 t3 t4 t5 l0 l1 K hs2
      have zf := blk_lt FB
      have zl2 := blk_lt LB
      obtain ⟨u0, u1⟩ := blk_2 FB
      go_wp2_with fail
      clear u0 u1 FB zf zl zl2 zt
      rw [rounds_succ]
      obtain ⟨t0, t1, t2, t3, t4, t5⟩ := blk_6 TH
      obtain ⟨l0, l1⟩ := blk_2 LB
      have zl := blk_lt LB
      have zt := blk_lt TH
      have hs3 := h0.below H
      by_cases c3 : f3.1 * f0.2 < f0.1 * f3.2
      · have m3 : mn f0 f3 = f3 := if_pos c3
        have e3 := cmpI_lt _ _ c3
        clear c3
        go_wp2_with fail
        refine (fracCmp_both f3.1 f3.2 f0.1 f0.2 ad _ (hs3.below (bw_alloc (bw_refl _) _)) o3 o0).mono ?_
        rw [e3]
        rintro e w3 ⟨rfl, K⟩
        have FB := keep K (heap_new _ _)
        replace LB := keep K ((heap_old _ _ (blk_lt LB)).trans LB)
        replace RB := keep K ((heap_old _ _ (blk_lt RB)).trans RB)
        replace TH := keep K ((heap_old _ _ (blk_lt TH)).trans TH)
        replace H := bw_trans (bw_alloc H _) K
        clear t0 t1 t2 t3 t4 t5 l0 l1 K hs3
        have zf := blk_lt FB
        have zl3 := blk_lt LB
        obtain ⟨u0, u1⟩ := blk_2 FB
        obtain ⟨q0, q1, qf0, qf1⟩ := blkF LB
        go_wp2_with fail
        replace LB := setF2 LB (u0 := .int .i64 f3.1) (u1 := .int .i64 f3.2)
        replace RB := setO2 RB (b := w.heap.size + 2) (i := 0) (j := 1) (v := .int .i64 f3.1) (u := .int .i64 f3.2) (by omega)
        replace TH := setO2 TH (b := w.heap.size + 2) (i := 0) (j := 1) (v := .int .i64 f3.1) (u := .int .i64 f3.2) (by omega)
        replace H := bw_set (bw_set H (p := ⟨w.heap.size + 2, 0, none⟩) (by dsimp only; omega) (.int .i64 f3.1)) (p := ⟨w.heap.size + 2, 1, none⟩) (by dsimp only; omega) (.int .i64 f3.2)
        clear q0 q1 qf0 qf1 e3
        generalize ((w3.setCell ⟨w.heap.size + 2, 0, none⟩ (.int .i64 f3.1)).setCell ⟨w.heap.size + 2, 1, none⟩ (.int .i64 f3.2)) = V3 at LB RB TH H ⊢
        clear u0 u1 FB zf zl zl3 zt
        rw [rounds_succ]
        obtain ⟨l0, l1⟩ := blk_2 LB
        have zl := blk_lt LB
        have zr := blk_lt RB
        obtain ⟨q0, q1, qf0, qf1⟩ := blkF RB
        have R2 := setF2 RB (u0 := .int .i64 f3.1) (u1 := .int .i64 f3.2)
        obtain ⟨r0, r1⟩ := blk_2 R2
        have HB : Hid _ := H
        have e1 : Hid (mnA f0 f1 f2 f3 = f3) := by change _ = _; unfold mnA; rw [m1, m2, m3]
        clear R2 RB LB TH H m1 m2 m3
        go_wp2_with fail
        exact bodyPost_ret (v := .agg #[.int .i64 f3.1, .int .i64 f3.2]) (by simp [results, Tryz.results68, go_sem, r0, r1]) rfl ⟨by rw [e1.out], by repeat (first | with_reducible exact HB.out | with_reducible refine bw_set ?_ (by dsimp only; omega) _)⟩
      · have m3 : mn f0 f3 = f0 := if_neg c3
        have g3 := cmpI_ge _ _ c3
        generalize hx3 : cmpI (f3.1 * f0.2) (f0.1 * f3.2) = x3 at g3
        have HX3 : Hid (cmpI (f3.1 * f0.2) (f0.1 * f3.2) = x3) := hx3
        have p3 : 0 ≤ x3 := by omega
        clear hx3 g3
        clear c3
        go_wp2_with fail
        refine (fracCmp_both f3.1 f3.2 f0.1 f0.2 ad _ (hs3.below (bw_alloc (bw_refl _) _)) o3 o0).mono ?_
        rw [HX3.out]
        rintro e w3 ⟨rfl, K⟩
        have FB := keep K (heap_new _ _)
        replace LB := keep K ((heap_old _ _ (blk_lt LB)).trans LB)
        replace RB := keep K ((heap_old _ _ (blk_lt RB)).trans RB)
        replace TH := keep K ((heap_old _ _ (blk_lt TH)).trans TH)
        replace H := bw_trans (bw_alloc H _) K
        clear t0 t1 t2 t3 t4 t5 l0 l1 K hs3
        have zf := blk_lt FB
        have zl3 := blk_lt LB
        obtain ⟨u0, u1⟩ := blk_2 FB
        go_wp2_with fail
        clear u0 u1 FB zf zl zl3 zt
        rw [rounds_succ]
        obtain ⟨l0, l1⟩ := blk_2 LB
        have zl := blk_lt LB
        have zr := blk_lt RB
        obtain ⟨q0, q1, qf0, qf1⟩ := blkF RB
        have R2 := setF2 RB (u0 := .int .i64 f0.1) (u1 := .int .i64 f0.2)
        obtain ⟨r0, r1⟩ := blk_2 R2
        have HB : Hid _ := H
        have e1 : Hid (mnA f0 f1 f2 f3 = f0) := by change _ = _; unfold mnA; rw [m1, m2, m3]
        clear R2 RB LB TH H m1 m2 m3
        go_wp2_with fail
        exact bodyPost_ret (v := .agg #[.int .i64 f0.1, .int .i64 f0.2]) (by simp [results, Tryz.results68, go_sem, r0, r1]) rfl ⟨by rw [e1.out], by repeat (first | with_reducible exact HB.out | with_reducible refine bw_set ?_ (by dsimp only; omega) _)⟩
end Go.Proofs.YtkncejcpeejkkaaGreatDoor
namespace Go.Proofs.YtkncejcpeejkkaaGreatDoor
open Go.RowKit Go.Sort

/-- How far apart, at whatever arguments. -/
def apartV (ax ay bx b_y cx cy ex ey : Int) : Int × Int := if sgB ax ay bx b_y && sgB cx cy ex ey then apart ax ay bx b_y cx cy ex ey else (0, 0)
theorem apartV_ok {ax ay bx b_y cx cy ex ey : Int} (gs : sgB ax ay bx b_y = true) (gt : sgB cx cy ex ey = true) : apartV ax ay bx b_y cx cy ex ey = apart ax ay bx b_y cx cy ex ey := by unfold apartV; rw [gs, gt]; rfl
set_option maxHeartbeats 1000000 in
theorem segApart_no (ax ay bx b_y cx cy ex ey : Int) (w : World) (h : sgB ax ay bx b_y = false ∨ (sgB ax ay bx b_y = true ∧ sgB cx cy ex ey = false)) :
    Calls Tryz.prog 71 #[.agg #[.int .i64 ax, .int .i64 ay, .int .i64 bx, .int .i64 b_y], .agg #[.int .i64 cx, .int .i64 cy, .int .i64 ex, .int .i64 ey]] w fun e w' => e = .returned (.agg #[.int .i64 0, .int .i64 0]) ∧ Below w.heap.size w w' := by
  rcases h with gs | ⟨gs, gt⟩
  · go_enter Tryz.func71, Tryz.ntmps71
    go_wp2_with fail
    refine (segOk_any _ _ _ _ _).mono ?_
    rw [gs]
    rintro e w1 ⟨rfl, J⟩
    obtain ⟨hc, hf⟩ := bcell J
    have HB : Hid (Below w.heap.size w w1) := bw_trans (by repeat (first | exact bw_refl _ | assumption | apply bw_drewN | apply bw_drew | apply bw_alloc | refine bw_set ?_ (by simp) _)) J
    have hz := J.size
    simp at hz
    have hz' : w.heap.size + 2 < w1.heap.size := by omega
    clear hz J
    go_wp2_with fail
    exact bodyPost_ret (v := .agg #[.int .i64 0, .int .i64 0]) (by simp [results, Tryz.results71, go_sem, hc]) rfl ⟨rfl, by repeat (first | with_reducible exact HB.out | with_reducible refine bw_set ?_ (by dsimp only; omega) _)⟩
  · go_enter Tryz.func71, Tryz.ntmps71
    go_wp2_with fail
    refine (segOk_any _ _ _ _ _).mono ?_
    rw [gs]
    rintro e w1 ⟨rfl, J⟩
    obtain ⟨hc, hf⟩ := bcell J
    go_wp2_with fail
    refine (segOk_any _ _ _ _ _).mono ?_
    rw [gt]
    rintro e w1 ⟨rfl, J2⟩
    replace J := bw_trans J J2
    clear hc hf J2
    obtain ⟨hc, hf⟩ := bcell J
    have HB : Hid (Below w.heap.size w w1) := bw_trans (by repeat (first | exact bw_refl _ | assumption | apply bw_drewN | apply bw_drew | apply bw_alloc | refine bw_set ?_ (by simp) _)) J
    have hz := J.size
    simp at hz
    have hz' : w.heap.size + 2 < w1.heap.size := by omega
    clear hz J
    go_wp2_with fail
    exact bodyPost_ret (v := .agg #[.int .i64 0, .int .i64 0]) (by simp [results, Tryz.results71, go_sem, hc]) rfl ⟨rfl, by repeat (first | with_reducible exact HB.out | with_reducible refine bw_set ?_ (by dsimp only; omega) _)⟩
set_option maxHeartbeats 1000000 in
theorem segApart_meet (ax ay bx b_y cx cy ex ey : Int) (ad : Addr) (w : World) (h0 : Sent ad w) (gs : sgB ax ay bx b_y = true) (gt : sgB cx cy ex ey = true) (hm : meetC ax ay bx b_y cx cy ex ey = true) :
    Calls Tryz.prog 71 #[.agg #[.int .i64 ax, .int .i64 ay, .int .i64 bx, .int .i64 b_y], .agg #[.int .i64 cx, .int .i64 cy, .int .i64 ex, .int .i64 ey]] w fun e w' => e = .returned (.agg #[.int .i64 0, .int .i64 1]) ∧ Below w.heap.size w w' := by
  have b0 : Below w.heap.size w (((w.alloc (.cells #[.int .i64 ax, .int .i64 ay, .int .i64 bx, .int .i64 b_y] 75)).alloc (.cells #[.int .i64 cx, .int .i64 cy, .int .i64 ex, .int .i64 ey] 75)).alloc (.cells #[.int .i64 0, .int .i64 0] 61)) := (by repeat (first | exact bw_refl _ | assumption | apply bw_drewN | apply bw_drew | apply bw_alloc | refine bw_set ?_ (by simp) _))
  go_enter Tryz.func71, Tryz.ntmps71
  go_wp2_with fail
  refine (segOk_any _ _ _ _ _).mono ?_
  rw [gs]
  rintro e w1 ⟨rfl, J⟩
  obtain ⟨hc, hf⟩ := bcell J
  go_wp2_with fail
  refine (segOk_any _ _ _ _ _).mono ?_
  rw [gt]
  rintro e w1 ⟨rfl, J2⟩
  replace J := bw_trans J J2
  clear hc hf J2
  obtain ⟨hc, hf⟩ := bcell J
  go_wp2_with fail
  refine (meet_ok _ _ _ _ _ _ _ _ _ gs gt).mono ?_
  rw [hm]
  rintro e w1 ⟨rfl, J2⟩
  replace J := bw_trans J J2
  clear hc hf J2
  obtain ⟨hc, hf⟩ := bcell J
  go_wp2_with fail
  refine (grid_one 0 (by decide) (by decide) ad _ (h0.below (bw_trans b0 J))).mono ?_
  rintro e w1 ⟨rfl, J2⟩
  replace J := bw_trans J J2
  clear hc hf J2
  obtain ⟨hc, hf⟩ := bcell J
  have HB : Hid (Below w.heap.size w w1) := bw_trans (by repeat (first | exact bw_refl _ | assumption | apply bw_drewN | apply bw_drew | apply bw_alloc | refine bw_set ?_ (by simp) _)) J
  have hz := J.size
  simp at hz
  have hz' : w.heap.size + 2 < w1.heap.size := by omega
  clear hz J
  go_wp2_with fail
  exact bodyPost_ret (v := .agg #[.int .i64 0, .int .i64 1]) (by simp [results, Tryz.results71, go_sem, hc]) rfl ⟨rfl, by repeat (first | with_reducible exact HB.out | with_reducible refine bw_set ?_ (by dsimp only; omega) _)⟩
set_option maxHeartbeats 4000000 in
theorem segApart_far (ax ay bx b_y cx cy ex ey : Int) (ad : Addr) (w : World) (h0 : Sent ad w) (gs : sgB ax ay bx b_y = true) (gt : sgB cx cy ex ey = true) (hm : meetC ax ay bx b_y cx cy ex ey = false) :
    Calls Tryz.prog 71 #[.agg #[.int .i64 ax, .int .i64 ay, .int .i64 bx, .int .i64 b_y], .agg #[.int .i64 cx, .int .i64 cy, .int .i64 ex, .int .i64 ey]] w fun e w' => e = .returned (.agg #[.int .i64 (mnA (far ax ay bx b_y cx cy) (far ax ay bx b_y ex ey) (far cx cy ex ey ax ay) (far cx cy ex ey bx b_y)).1, .int .i64 (mnA (far ax ay bx b_y cx cy) (far ax ay bx b_y ex ey) (far cx cy ex ey ax ay) (far cx cy ex ey bx b_y)).2]) ∧ Below w.heap.size w w' := by
  obtain ⟨pa, pb, _⟩ := sg_parts gs
  obtain ⟨pc, pd, _⟩ := sg_parts gt
  obtain ⟨o1, o2, o3, o4⟩ := four_ok gs gt
  obtain ⟨W, hW, BW, SB, TB, RB⟩ := boxes3 w (.cells #[.int .i64 ax, .int .i64 ay, .int .i64 bx, .int .i64 b_y] 75) (.cells #[.int .i64 cx, .int .i64 cy, .int .i64 ex, .int .i64 ey] 75) (.cells #[.int .i64 0, .int .i64 0] 61)
  have FA0 : Hid (∀ w, Sent ad w → Calls Tryz.prog 85 #[.agg #[.int .i64 ax, .int .i64 ay, .int .i64 bx, .int .i64 b_y], .agg #[.int .i64 cx, .int .i64 cy]] w fun e w' => e = .returned (.agg #[.int .i64 (far ax ay bx b_y cx cy).1, .int .i64 (far ax ay bx b_y cx cy).2]) ∧ Below w.heap.size w w') := fun w hs => segFar_ok ax ay bx b_y cx cy ad w hs gs pc
  have FA1 : Hid (∀ w, Sent ad w → Calls Tryz.prog 85 #[.agg #[.int .i64 ax, .int .i64 ay, .int .i64 bx, .int .i64 b_y], .agg #[.int .i64 ex, .int .i64 ey]] w fun e w' => e = .returned (.agg #[.int .i64 (far ax ay bx b_y ex ey).1, .int .i64 (far ax ay bx b_y ex ey).2]) ∧ Below w.heap.size w w') := fun w hs => segFar_ok ax ay bx b_y ex ey ad w hs gs pd
  have FA2 : Hid (∀ w, Sent ad w → Calls Tryz.prog 85 #[.agg #[.int .i64 cx, .int .i64 cy, .int .i64 ex, .int .i64 ey], .agg #[.int .i64 ax, .int .i64 ay]] w fun e w' => e = .returned (.agg #[.int .i64 (far cx cy ex ey ax ay).1, .int .i64 (far cx cy ex ey ax ay).2]) ∧ Below w.heap.size w w') := fun w hs => segFar_ok cx cy ex ey ax ay ad w hs gt pa
  have FA3 : Hid (∀ w, Sent ad w → Calls Tryz.prog 85 #[.agg #[.int .i64 cx, .int .i64 cy, .int .i64 ex, .int .i64 ey], .agg #[.int .i64 bx, .int .i64 b_y]] w fun e w' => e = .returned (.agg #[.int .i64 (far cx cy ex ey bx b_y).1, .int .i64 (far cx cy ex ey bx b_y).2]) ∧ Below w.heap.size w w') := fun w hs => segFar_ok cx cy ex ey bx b_y ad w hs gt pb
  go_enter Tryz.func71, Tryz.ntmps71
  go_wp2_with fail
  refine (segOk_any _ _ _ _ _).mono ?_
  rw [gs]
  rintro e w1 ⟨rfl, J⟩
  obtain ⟨hc, hf⟩ := bcell J
  go_wp2_with fail
  refine (segOk_any _ _ _ _ _).mono ?_
  rw [gt]
  rintro e w1 ⟨rfl, J2⟩
  replace J := bw_trans J J2
  clear hc hf J2
  obtain ⟨hc, hf⟩ := bcell J
  go_wp2_with fail
  refine (meet_ok _ _ _ _ _ _ _ _ _ gs gt).mono ?_
  rw [hm]
  rintro e w1 ⟨rfl, J2⟩
  replace J := bw_trans J J2
  clear hc hf J2
  obtain ⟨hc, hf⟩ := bcell J
  go_upto_region 5 with fail
  rw [← hW] at J
  replace SB := keep J SB
  replace TB := keep J TB
  replace RB := keep J RB
  have zr := blk_lt RB
  have H := (bw_trans BW J).drew
  have hS0 : (fun w' => w'.cell? ⟨w.heap.size, 0, none⟩ = some (.int .i64 ax) ∧ w'.cell? ⟨w.heap.size, 1, none⟩ = some (.int .i64 ay) ∧ w'.cell? ⟨w.heap.size, 2, none⟩ = some (.int .i64 bx) ∧ w'.cell? ⟨w.heap.size, 3, none⟩ = some (.int .i64 b_y) ∧ w'.cell? ⟨w.heap.size + 1, 0, none⟩ = some (.int .i64 cx) ∧ w'.cell? ⟨w.heap.size + 1, 1, none⟩ = some (.int .i64 cy) ∧ w'.cell? ⟨w.heap.size + 1, 2, none⟩ = some (.int .i64 ex) ∧ w'.cell? ⟨w.heap.size + 1, 3, none⟩ = some (.int .i64 ey)) w1 := by
    obtain ⟨s0, s1, s2, s3⟩ := blk_4 SB
    obtain ⟨t0, t1, t2, t3⟩ := blk_4 TB
    exact ⟨s0, s1, s2, s3, t0, t1, t2, t3⟩
  clear hW hc hf J SB TB BW
  replace RB : w1.drew.heap[w.heap.size + 2]? = _ := RB
  have HS : Sent ad w1.drew := h0.below H
  clear h0 gs gt hm pa pb pc pd
  go_region_held3 (fun w' => w'.cell? ⟨w.heap.size, 0, none⟩ = some (.int .i64 ax) ∧ w'.cell? ⟨w.heap.size, 1, none⟩ = some (.int .i64 ay) ∧ w'.cell? ⟨w.heap.size, 2, none⟩ = some (.int .i64 bx) ∧ w'.cell? ⟨w.heap.size, 3, none⟩ = some (.int .i64 b_y) ∧ w'.cell? ⟨w.heap.size + 1, 0, none⟩ = some (.int .i64 cx) ∧ w'.cell? ⟨w.heap.size + 1, 1, none⟩ = some (.int .i64 cy) ∧ w'.cell? ⟨w.heap.size + 1, 2, none⟩ = some (.int .i64 ex) ∧ w'.cell? ⟨w.heap.size + 1, 3, none⟩ = some (.int .i64 ey)) (first | with_reducible exact cB8 K (by assumption) | with_reducible exact cA8 (by assumption) | exact hS0 | exact cS8 (by assumption) (by dsimp only; omega) (by dsimp only; omega) (by dsimp only; omega) (by dsimp only; omega) (by dsimp only; omega) (by dsimp only; omega) (by dsimp only; omega) (by dsimp only; omega)) (first | (go_at_call 85; refine (FA0.out _ HS).mono ?_; clear FA0; rintro e v0 ⟨rfl, K⟩; replace HS := HS.below K; replace H := bw_trans H K; replace RB := keep K RB) | (go_at_call 85; refine (FA1.out _ HS).mono ?_; clear FA1; rintro e v1 ⟨rfl, K⟩; replace HS := HS.below K; replace H := bw_trans H K; replace RB := keep K RB) | (go_at_call 85; refine (FA2.out _ HS).mono ?_; clear FA2; rintro e v2 ⟨rfl, K⟩; replace HS := HS.below K; replace H := bw_trans H K; replace RB := keep K RB) | (go_at_call 85; refine (FA3.out _ HS).mono ?_; clear FA3; rintro e v3 ⟨rfl, K⟩; replace HS := HS.below K; replace H := bw_trans H K; replace RB := keep K RB) | (go_at_call 68; refine (least_ok (far ax ay bx b_y cx cy) (far ax ay bx b_y ex ey) (far cx cy ex ey ax ay) (far cx cy ex ey bx b_y) _ ad _ ?_ o1 o2 o3 o4 ?_).mono ?_; exact HS.below (bw_alloc (bw_refl _) _); exact heap_new _ _; rintro e v4 ⟨rfl, K⟩; replace RB := keep K ((heap_old _ _ (blk_lt RB)).trans RB); replace H := bw_trans (bw_alloc H _) K; obtain ⟨q0, q1, qf0, qf1⟩ := blkF RB))
  have HB : Hid _ := H
  have zz := blk_lt RB
  have R2 := setF2 RB (u0 := .int .i64 (mnA (far ax ay bx b_y cx cy) (far ax ay bx b_y ex ey) (far cx cy ex ey ax ay) (far cx cy ex ey bx b_y)).1) (u1 := .int .i64 (mnA (far ax ay bx b_y cx cy) (far ax ay bx b_y ex ey) (far cx cy ex ey ax ay) (far cx cy ex ey bx b_y)).2)
  obtain ⟨r0, r1⟩ := blk_2 R2
  clear H RB R2
  go_wp2_with fail
  exact bodyPost_ret (v := .agg #[.int .i64 (mnA (far ax ay bx b_y cx cy) (far ax ay bx b_y ex ey) (far cx cy ex ey ax ay) (far cx cy ex ey bx b_y)).1, .int .i64 (mnA (far ax ay bx b_y cx cy) (far ax ay bx b_y ex ey) (far cx cy ex ey ax ay) (far cx cy ex ey bx b_y)).2]) (by simp [results, Tryz.results71, go_sem, r0, r1]) rfl ⟨rfl, by repeat (first | with_reducible exact HB.out | with_reducible refine bw_set ?_ (by dsimp only; omega) _)⟩
theorem segApart_any (ax ay bx b_y cx cy ex ey : Int) (ad : Addr) (w : World) (h0 : Sent ad w) :
    Calls Tryz.prog 71 #[.agg #[.int .i64 ax, .int .i64 ay, .int .i64 bx, .int .i64 b_y], .agg #[.int .i64 cx, .int .i64 cy, .int .i64 ex, .int .i64 ey]] w fun e w' => e = .returned (.agg #[.int .i64 (apartV ax ay bx b_y cx cy ex ey).1, .int .i64 (apartV ax ay bx b_y cx cy ex ey).2]) ∧ Below w.heap.size w w' := by
  cases gs : sgB ax ay bx b_y
  · have e : apartV ax ay bx b_y cx cy ex ey = (0, 0) := by unfold apartV; rw [gs]; rfl
    rw [e]; exact segApart_no _ _ _ _ _ _ _ _ w (.inl gs)
  · cases gt : sgB cx cy ex ey
    · have e : apartV ax ay bx b_y cx cy ex ey = (0, 0) := by unfold apartV; rw [gs, gt]; rfl
      rw [e]; exact segApart_no _ _ _ _ _ _ _ _ w (.inr ⟨gs, gt⟩)
    · rw [apartV_ok gs gt]
      unfold apart
      cases hm : meetC ax ay bx b_y cx cy ex ey
      · exact segApart_far _ _ _ _ _ _ _ _ ad w h0 gs gt hm
      · exact segApart_meet _ _ _ _ _ _ _ _ ad w h0 gs gt hm
theorem segApart_ok (ax ay bx b_y cx cy ex ey : Int) (ad : Addr) (w : World) (h0 : Sent ad w) (gs : sgB ax ay bx b_y = true) (gt : sgB cx cy ex ey = true) :
    Calls Tryz.prog 71 #[.agg #[.int .i64 ax, .int .i64 ay, .int .i64 bx, .int .i64 b_y], .agg #[.int .i64 cx, .int .i64 cy, .int .i64 ex, .int .i64 ey]] w fun e w' => e = .returned (.agg #[.int .i64 (apart ax ay bx b_y cx cy ex ey).1, .int .i64 (apart ax ay bx b_y cx cy ex ey).2]) ∧ Below w.heap.size w w' := by
  rw [← apartV_ok gs gt]; exact segApart_any _ _ _ _ _ _ _ _ ad w h0
end Go.Proofs.YtkncejcpeejkkaaGreatDoor
namespace Go.Proofs.YtkncejcpeejkkaaGreatDoor
open Go.RowKit Go.Sort

def frAt (fs : List (Int × Int)) (j : Nat) : Int × Int := fs[j]?.getD (0, 1)
theorem fold_take (fs : List (Int × Int)) (f0 : Int × Int) (k : Nat) (hk : k < fs.length) : (fs.take (k + 1)).foldl mn f0 = mn ((fs.take k).foldl mn f0) (frAt fs k) := by
  rw [List.take_add_one, List.foldl_append, List.getElem?_eq_getElem hk]; simp [frAt, hk]
theorem fold_ok (fs : List (Int × Int)) (f0 : Int × Int) (h0 : OkF f0) (hfs : ∀ f ∈ fs, OkF f) : OkF (fs.foldl mn f0) := by
  induction fs generalizing f0 with
  | nil => exact h0
  | cons f fs ih => exact ih _ (mn_ok h0 (hfs f (by simp))) (fun g hg => hfs g (by simp [hg]))
set_option maxRecDepth 100000 in
set_option maxHeartbeats 2000000 in
theorem leastRow_ok (f0 : Int × Int) (fs : List (Int × Int)) (b off len cap : Nat) (ad : Addr) (w : World) (h0 : Sent ad w) (o0 : OkF f0) (hfs : ∀ f ∈ fs, OkF f) (hl : Hid (fs.length = len)) (hlen : len ≤ 1000) (hb : b < w.heap.size)
    (hc : ∀ j, j < len → w.cell? ⟨b, off + j * 2, none⟩ = some (.int .i64 (frAt fs j).1) ∧ w.cell? ⟨b, off + j * 2 + 1, none⟩ = some (.int .i64 (frAt fs j).2)) :
    Calls Tryz.prog 68 #[.agg #[.int .i64 f0.1, .int .i64 f0.2], .slice (some ⟨b, off, none⟩) len cap] w fun e w' => e = .returned (.agg #[.int .i64 (fs.foldl mn f0).1, .int .i64 (fs.foldl mn f0).2]) ∧ Below w.heap.size w w' := by
  obtain ⟨W, hW, H, _, RB, LB⟩ := boxes3 w (.cells #[.int .i64 f0.1, .int .i64 f0.2] 61) (.cells #[.int .i64 0, .int .i64 0] 61) (.cells #[.int .i64 f0.1, .int .i64 f0.2] 61)
  have HT : Hid (∀ k, k < len → (fs.take (k + 1)).foldl mn f0 = mn ((fs.take k).foldl mn f0) (frAt fs k)) := fun k hk => fold_take fs f0 k (by rw [hl.out]; exact hk)
  have HOK : Hid (∀ k, OkF ((fs.take k).foldl mn f0)) := fun k => fold_ok _ _ o0 (fun f hf => hfs f (List.mem_of_mem_take hf))
  have HO2 : Hid (∀ k, k < len → OkF (frAt fs k)) := fun k hk => hfs _ (by unfold frAt; rw [List.getElem?_eq_getElem (by rw [hl.out]; exact hk), Option.getD_some]; exact List.getElem_mem _)
  go_enter Tryz.func68, Tryz.ntmps68
  go_upto_region 3 with fail
  rw [← hW]
  clear hW
  go_loopw [11] (fun i wr => ∃ (k : Nat) (m : Int × Int), k ≤ len ∧ i = .int .i64 k ∧ m = (fs.take k).foldl mn f0 ∧ wr.heap[w.heap.size + 2]? = some (.cells #[.int .i64 m.1, .int .i64 m.2] 61 (0, 0)) ∧ wr.heap[w.heap.size + 1]? = some (.cells #[.int .i64 0, .int .i64 0] 61 (0, 0)) ∧ Below w.heap.size w wr) (fun i _ => len - (intOf i).toNat)
  case atStart => exact ⟨0, f0, Nat.zero_le _, rfl, rfl, LB, RB, H⟩
  case round =>
    obtain ⟨k, m, hk, rfl, hm, LB, RB, H⟩ := hrel
    have hs1 := h0.below H
    have zl := blk_lt LB
    by_cases hlt : k < len
    case neg =>
      obtain rfl : len = k := by omega
      rw [List.take_of_length_le (by rw [hl.out]; exact Nat.le_refl _)] at hm
      obtain ⟨l0, l1⟩ := blk_2 LB
      obtain ⟨q0, q1, qf0, qf1⟩ := blkF RB
      have RB2 := setF2 RB (u0 := .int .i64 m.1) (u1 := .int .i64 m.2)
      obtain ⟨v0, v1⟩ := blk_2 RB2
      have HM : Hid (m = fs.foldl mn f0) := hm
      clear hm
      go_wp2_with fail
      refine bodyPost_ret (v := .agg #[.int .i64 m.1, .int .i64 m.2]) (by simp [results, Tryz.results68, go_sem, v0, v1]) rfl ⟨by rw [HM.out], ?_⟩
      exact bw_set (bw_set H (p := ⟨w.heap.size + 1, 0, none⟩) (by dsimp only; omega) _) (p := ⟨w.heap.size + 1, 1, none⟩) (by dsimp only; omega) _
    case pos =>
      have om : OkF m := by rw [hm]; exact HOK.out k
      have og := HO2.out k hlt
      have hst := HT.out k hlt
      rw [← hm] at hst
      clear hm
      obtain ⟨c0, c1⟩ := hc k hlt
      have d0 := (H.cell (p := ⟨b, off + k * 2, none⟩) hb).trans c0
      have d1 := (H.cell (p := ⟨b, off + k * 2 + 1, none⟩) hb).trans c1
      obtain ⟨l0, l1⟩ := blk_2 LB
      have i0 : (0 : Int) ≤ (k : Int) := Int.natCast_nonneg _
      have i1 : (k : Int) < (len : Int) := by omega
      have k9 : (k : Int) ≤ 1000 := by omega
      generalize frAt fs k = g at *
      have HS : Hid ((fs.take (k + 1)).foldl mn f0 = mn m g) := hst
      clear hst c0 c1
      by_cases c : g.1 * m.2 < m.1 * g.2
      · have m1 : mn m g = g := if_pos c
        have e1 := cmpI_lt _ _ c
        clear c
        go_wp2_with fail
        refine (fracCmp_both g.1 g.2 m.1 m.2 ad _ (hs1.below (bw_alloc (bw_refl _) _)) og om).mono ?_
        rw [e1]
        rintro e w1 ⟨rfl, K⟩
        have FB := keep K (heap_new _ _)
        replace LB := keep K ((heap_old _ _ (blk_lt LB)).trans LB)
        replace RB := keep K ((heap_old _ _ (blk_lt RB)).trans RB)
        replace H := bw_trans (bw_alloc H _) K
        clear l0 l1 K hs1 d0 d1
        have zf := blk_lt FB
        obtain ⟨u0, u1⟩ := blk_2 FB
        obtain ⟨q0, q1, qf0, qf1⟩ := blkF LB
        go_wp2_with fail
        have LB2 := setF2 LB (u0 := .int .i64 g.1) (u1 := .int .i64 g.2)
        have RB2 := setO2 RB (b := w.heap.size + 2) (i := 0) (j := 1) (v := .int .i64 g.1) (u := .int .i64 g.2) (by omega)
        have H2 := bw_set (bw_set H (p := ⟨w.heap.size + 2, 0, none⟩) (by dsimp only; omega) (.int .i64 g.1)) (p := ⟨w.heap.size + 2, 1, none⟩) (by dsimp only; omega) (.int .i64 g.2)
        go_roundw
        case rel => exact ⟨k + 1, g, by omega, by simp, by rw [HS.out, m1], LB2, RB2, H2⟩
        case measure => simp [intOf]; omega
      · have m1 : mn m g = m := if_neg c
        have e1 := cmpI_ge _ _ c
        obtain ⟨x, hx⟩ : ∃ x, cmpI (g.1 * m.2) (m.1 * g.2) = x := ⟨_, rfl⟩
        rw [hx] at e1
        clear c
        have hcall := fracCmp_both g.1 g.2 m.1 m.2 ad (wr.alloc (.cells #[.int .i64 g.1, .int .i64 g.2] 61)) (hs1.below (bw_alloc (bw_refl _) _)) og om
        rw [hx] at hcall
        clear hx
        go_wp2_with fail
        refine hcall.mono ?_
        rintro e w1 ⟨rfl, K⟩
        replace LB := keep K ((heap_old _ _ (blk_lt LB)).trans LB)
        replace RB := keep K ((heap_old _ _ (blk_lt RB)).trans RB)
        replace H := bw_trans (bw_alloc H _) K
        clear l0 l1 K hs1 d0 d1
        go_wp2_with fail
        go_roundw
        case rel => exact ⟨k + 1, m, by omega, by simp, by rw [HS.out, m1], LB, RB, H⟩
        case measure => simp [intOf]; omega
end Go.Proofs.YtkncejcpeejkkaaGreatDoor
namespace Go.Proofs.YtkncejcpeejkkaaGreatDoor
open Go.RowKit Go.Sort

theorem frCells_at (fs : List (Int × Int)) (j : Nat) (hj : j < fs.length) : (frCells fs)[j * 2]? = some (.int .i64 (frAt fs j).1) ∧ (frCells fs)[j * 2 + 1]? = some (.int .i64 (frAt fs j).2) := by
  induction fs generalizing j with
  | nil => simp at hj
  | cons f fs ih =>
    have e : frCells (f :: fs) = .int .i64 f.1 :: .int .i64 f.2 :: frCells fs := by simp [frCells]
    cases j with
    | zero => rw [e]; exact ⟨rfl, rfl⟩
    | succ j =>
      have := ih j (by simpa using hj)
      have e1 : (j + 1) * 2 = j * 2 + 1 + 1 := by omega
      rw [e, e1]
      simpa [frAt] using this
set_option maxRecDepth 100000 in
set_option maxHeartbeats 2000000 in
theorem boardFar_any (b : Nat) (rs : List RingT) (p : P2) (ad : Addr) (w : World) (h0 : Sent ad w) (hR : RingN w.heap.size w (some ⟨b, 0, none⟩) rs) (hes : (edgR rs).length ≤ 1000) (he1 : 2 ≤ (edgR rs).length) (hok : ∀ s ∈ edgR rs, OkF (farS p s)) :
    Calls Tryz.prog 49 #[.pointer (some ⟨b, 0, none⟩), .agg #[.int .i64 p.1, .int .i64 p.2]] w fun e W' => e = .returned (.agg #[.int .i64 (leastL ((edgR rs).map (farS p))).1, .int .i64 (leastL ((edgR rs).map (farS p))).2]) ∧ Below w.heap.size w W' := by
  obtain ⟨W, hW, BW, T, RB⟩ := boxes2 w (.cells #[.int .i64 p.1, .int .i64 p.2] 43) (.cells #[.int .i64 0, .int .i64 0] 61)
  obtain ⟨M, hM⟩ : ∃ M, (edgR rs).length = M := ⟨_, rfl⟩
  have hcall := callsIn_wide.1 (fars_in 12 (Nat.le_refl _) b rs p ad W (h0.below BW) (by have := hR.keep BW; exact RingL.ringN (Nat.le_refl _) (RingL.grow BW.size this.ringL)) hes)
  obtain ⟨fs, hfs⟩ : ∃ fs, (edgR rs).map (farS p) = fs := ⟨_, rfl⟩
  have hfl : fs.length = M := by rw [← hfs, List.length_map, hM]
  have hfo : ∀ f ∈ fs, OkF f := by intro f hf; rw [← hfs] at hf; obtain ⟨s, hs, rfl⟩ := List.mem_map.1 hf; exact hok s hs
  rw [hfs, hM] at hcall
  rw [hM] at hes he1
  rw [hfs]
  obtain ⟨r, hr⟩ : ∃ r, leastL fs = r := ⟨_, rfl⟩
  rw [hr]
  have Hr : Hid (leastL fs = r) := hr
  clear hfs hok hr
  obtain ⟨t0, t1⟩ := blk_2 T
  go_enter Tryz.func49, Tryz.ntmps49
  go_upto_region 1 with fail
  rw [← hW]
  clear hW
  go_wp2_with fail
  refine hcall.mono ?_
  rintro e w1 ⟨v, rfl, ho, J⟩
  have ho' := ho
  rcases ho.2 with ⟨_, hz⟩ | ⟨g, c, cur, rfl, hgb, hg, hMc, hcm, _⟩
  · omega
  have zg := (Array.getElem?_eq_some_iff.1 hg).1
  have hc := ho'.cells (g := g) rfl
  have add : ∀ k : Nat, (⟨g, 0, none⟩ : Addr).add k = ⟨g, k, none⟩ := fun k => by unfold Addr.add; split <;> simp_all
  have hcell : ∀ j, j < M → w1.cell? ⟨g, j * 2, none⟩ = some (.int .i64 (frAt fs j).1) ∧ w1.cell? ⟨g, j * 2 + 1, none⟩ = some (.int .i64 (frAt fs j).2) := fun j hj => by
    obtain ⟨a0, a1⟩ := frCells_at fs j (by omega)
    have d0 := hc _ _ a0
    have d1 := hc _ _ a1
    rw [add] at d0 d1
    exact ⟨d0, d1⟩
  obtain ⟨f, fs', rfl⟩ : ∃ f fs', fs = f :: fs' := by
    cases fs with
    | nil => simp at hfl; omega
    | cons f fs' => exact ⟨f, fs', rfl⟩
  obtain ⟨d0, d1⟩ := hcell 0 (by omega)
  simp only [Nat.zero_mul, Nat.zero_add, frAt, List.getElem?_cons_zero, Option.getD_some] at d0 d1
  have i1 : (0 : Int) < (M : Int) := by omega
  have i4 : 0 < M := by omega
  have hgne : g ≠ w.heap.size + 1 := by have := blk_lt RB; omega
  have i2 : (1 : Int) ≤ (M : Int) := by omega
  have i3 : (M : Int) ≤ (c : Int) := by omega
  have zW := BW.size
  have RB1 := keep J RB
  have zR := blk_lt RB
  have hl' : Hid (fs'.length = M - 1) := by change _ = _; simp at hfl; omega
  have hcl : ∀ j, j < M - 1 → w1.cell? ⟨g, 2 + j * 2, none⟩ = some (.int .i64 (frAt fs' j).1) ∧ w1.cell? ⟨g, 2 + j * 2 + 1, none⟩ = some (.int .i64 (frAt fs' j).2) := fun j hj => by
    have := hcell (j + 1) (by omega)
    rw [show (j + 1) * 2 = 2 + j * 2 by omega] at this
    simpa [frAt] using this
  have hs1 := (h0.below BW).below J
  have B2 : Below w1.heap.size w1 w1.drew := bw_drew (bw_refl _)
  have hL := fun cap => leastRow_ok f fs' g 2 (M - 1) cap ad w1.drew (hs1.below B2) (hfo f (by simp)) (fun x hx => hfo x (by simp [hx])) hl' (by omega) zg hcl
  have e1 : ((M : Int) - 1).toNat = M - 1 := by omega
  have c1' : (c = 1) = False := by simp; omega
  have RBd := RB1
  obtain ⟨q0, q1, qf0, qf1⟩ := blkF RB1
  have hr : fs'.foldl mn f = r := Hr.out
  rw [hr] at hL
  clear hcell hc ho ho' hr
  go_wp2_with fail
  go_region_held3 (fun w' => w'.cell? ⟨g, 0, none⟩ = some (.int .i64 f.1) ∧ w'.cell? ⟨g, 1, none⟩ = some (.int .i64 f.2))
    (first | go_keep | exact ⟨(J2.cell (p := ⟨g, 0, none⟩) zg).trans d0, (J2.cell (p := ⟨g, 1, none⟩) zg).trans d1⟩ | exact ⟨cellS2 ((J2.cell (p := ⟨g, 0, none⟩) zg).trans d0) hgne, cellS2 ((J2.cell (p := ⟨g, 1, none⟩) zg).trans d1) hgne⟩)
    ((go_at_call 68; refine (hL _).mono ?_; rintro e w2 ⟨rfl, J2⟩; have RB2 : w2.heap[w.heap.size + 1]? = some (.cells #[.int .i64 0, .int .i64 0] 61 (0, 0)) := keep J2 RBd; obtain ⟨x0, x1, xf0, xf1⟩ := blkF RB2))
  have RB3 := setF2 RB2 (u0 := .int .i64 r.1) (u1 := .int .i64 r.2)
  obtain ⟨v0, v1⟩ := blk_2 RB3
  go_wp2_with fail
  exact bodyPost_ret (v := .agg #[.int .i64 r.1, .int .i64 r.2]) (by simp [results, Tryz.results49, go_sem, v0, v1]) rfl ⟨rfl, bw_set (bw_set (bw_trans (bw_trans (bw_trans BW J) B2) J2) (p := ⟨w.heap.size + 1, 0, none⟩) (by dsimp only; omega) _) (p := ⟨w.heap.size + 1, 1, none⟩) (by dsimp only; omega) _⟩
end Go.Proofs.YtkncejcpeejkkaaGreatDoor
namespace Go.Proofs.YtkncejcpeejkkaaGreatDoor
open Go.RowKit Go.Sort

theorem blkF3 {w : World} {b : Nat} {x y z : Value} {t : TypeId} (h : w.heap[b]? = some (.cells #[x, y, z] t (0, 0))) :
    w.cell? ⟨b, 0, none⟩ = some x ∧ w.cell? ⟨b, 1, none⟩ = some y ∧ w.cell? ⟨b, 2, none⟩ = some z ∧ w.frozen? ⟨b, 0, none⟩ = false ∧ w.frozen? ⟨b, 1, none⟩ = false ∧ w.frozen? ⟨b, 2, none⟩ = false := by
  refine ⟨?_, ?_, ?_, ?_, ?_, ?_⟩ <;> simp [World.cell?, World.frozen?, h]
theorem reg_3 {w : World} {b : Nat} {x0 x1 x2 : Value} {t : TypeId} (h : w.heap[b]? = some (.cells #[x0, x1, x2] t (0, 0))) :
    (∀ d os, (grow (redrawn w d) os).cell? ⟨b, 0, none⟩ = some x0) ∧ (∀ d os, (grow (redrawn w d) os).cell? ⟨b, 1, none⟩ = some x1) ∧ (∀ d os, (grow (redrawn w d) os).cell? ⟨b, 2, none⟩ = some x2) := by
  obtain ⟨a0, a1, a2⟩ := blk_3 h
  exact ⟨cell_regrown a0, cell_regrown a1, cell_regrown a2⟩
theorem setF3 {w : World} {b : Nat} {x0 x1 x2 u0 u1 u2 : Value} {t : TypeId} (h : w.heap[b]? = some (.cells #[x0, x1, x2] t (0, 0))) : (((w.setCell ⟨b, 0, none⟩ u0).setCell ⟨b, 1, none⟩ u1).setCell ⟨b, 2, none⟩ u2).heap[b]? = some (.cells #[u0, u1, u2] t (0, 0)) := by
  simp [World.setCell, Array.getElem?_modify, h]
theorem bw_set3 {n : Nat} {W w : World} (h : Below n W w) {b : Nat} (hb : n ≤ b) (u0 u1 u2 : Value) : Below n W (((w.setCell ⟨b, 0, none⟩ u0).setCell ⟨b, 1, none⟩ u1).setCell ⟨b, 2, none⟩ u2) :=
  ((h.setCell (p := ⟨b, 0, none⟩) hb u0).setCell (p := ⟨b, 1, none⟩) hb u1).setCell (p := ⟨b, 2, none⟩) hb u2
theorem setRow {W : World} {g : Nat} {cur : Array Value} {e : TypeId} (h : W.heap[g]? = some (.cells cur e (0, 0))) (i : Nat) (v : Value) : (W.setCell ⟨g, i, none⟩ v).heap[g]? = some (.cells (cur.setIfInBounds i v) e (0, 0)) := by
  simp [World.setCell, Array.getElem?_modify, h]
theorem ringL_set {n₀ B i : Nat} {W : World} {cs : Array Value} {t : TypeId} (hT : W.heap[B]? = some (.cells cs t (0, 0))) (hsz : cs.size = 3) (hB : n₀ ≤ B) (v : Value) : ∀ {p : Option Addr} {xs : List RingT}, RingL n₀ W p xs → RingL n₀ (W.setCell ⟨B, i, none⟩ v) p xs
  | _, [], hl => hl
  | _, _ :: _, ⟨b, q, t', hp, hL, hl, hP, hr⟩ => by
    refine ⟨b, q, t', hp, hL.other' (fun e => ?_) v, hl, ?_, ringL_set hT hsz hB v hr⟩
    · subst e
      have h2 : W.heap[b]? = _ := hL
      rw [hT] at h2; cases h2; simp at hsz
    · refine ⟨hP.1, hP.2.imp id ?_⟩
      rintro ⟨g, off, e, hg, hc⟩
      refine ⟨g, off, e, hg, fun j hj => ?_⟩
      have k : ∀ o, (W.setCell ⟨B, i, none⟩ v).cell? ⟨g, o, none⟩ = W.cell? ⟨g, o, none⟩ := fun o => World.cell?_of_block (Below.heap_setCell W ⟨B, i, none⟩ v g (fun e => by have e' : g = B := e; omega))
      rw [k, k]; exact hc j hj
/-- What toolOn hands back. -/
def ToolAns (n₀ : Nat) (ok : Bool) (r : Int) (a : Option Addr) (la ca : Nat) (o : List P2) (hs : List (List P2)) (e : Ending) (W' : World) : Prop :=
  ∃ (q : Option Addr) (n d : Int), e = .returned (.tuple #[.agg #[.pointer q, .int .i64 n, .int .i64 d], .bool ok]) ∧
    (ok = true → n = r ∧ d = 1 ∧ ∃ b xs, q = some ⟨b, 0, none⟩ ∧ RingL n₀ W' (some ⟨b, 0, none⟩) (⟨a, la, ca, o⟩ :: xs) ∧ xs.map RingT.pts = hs)
theorem toolOk_any (r : Int) (w : World) : Calls Tryz.prog 43 #[.int .i64 r] w fun e W' => e = .returned (.bool (rV r)) ∧ Below w.heap.size w W' := by
  have hw := bw_refl w
  by_cases c1 : r < 1
  · have hv : rV r = false := by rw [rV, decide_eq_false_iff_not]; omega
    rw [hv]
    go_enter Tryz.func43, Tryz.ntmps43
    go_wp2_with fail
    go_ret
    exact ⟨rfl, hw⟩
  · by_cases c2 : 9 < r
    · have hv : rV r = false := by rw [rV, decide_eq_false_iff_not]; omega
      rw [hv]
      go_enter Tryz.func43, Tryz.ntmps43
      go_wp2_with fail
      go_ret
      exact ⟨by first | rfl | (simp; omega), hw⟩
    · have hv : rV r = true := by rw [rV_iff]; omega
      rw [hv]
      go_enter Tryz.func43, Tryz.ntmps43
      go_wp2_with fail
      go_ret
      exact ⟨by first | rfl | (simp; omega), hw⟩
set_option maxRecDepth 100000 in
set_option maxHeartbeats 1000000 in
/-- A tool on a plate. -/
theorem toolOn_any (a ah : Option Addr) (la ca nh ch : Nat) (o : List P2) (hs : List (List P2)) (r : Int) (ad : Addr) (w : World) (h0 : Sent ad w) (h : Plt w a la ah nh o hs) :
    Calls Tryz.prog 27 #[.agg #[.slice a la ca, .slice ah nh ch], .int .i64 r] w fun e W' => ToolAns w.heap.size (rV r && plV o hs) r a la ca o hs e W' ∧ Below w.heap.size w W' := by
  obtain ⟨W, hW, BW, TP, RB⟩ := boxes2 w (.cells #[.slice a la ca, .slice ah nh ch] 32) (.cells #[.pointer none, .int .i64 0, .int .i64 0] 63)
  cases hr : rV r
  · have hK := fun V => toolOk_any r V
    rw [hr] at hK
    clear hr
    obtain ⟨t0, t1⟩ := blk_2 TP
    go_enter Tryz.func27, Tryz.ntmps27
    go_upto_region 1 with fail
    rw [← hW]
    clear hW
    go_wp2_with fail
    refine (hK _).mono ?_
    rintro e w1 ⟨rfl, J⟩
    have zB := BW.size
    have RB1 := keep J RB
    obtain ⟨q0, q1, q2, f0, f1, f2⟩ := blkF3 RB1
    have RB2 := setF3 RB1 (u0 := .pointer none) (u1 := .int .i64 0) (u2 := .int .i64 0)
    obtain ⟨v0, v1, v2, _, _, _⟩ := blkF3 RB2
    go_wp2_with fail
    exact bodyPost_ret (v := .tuple #[.agg #[.pointer none, .int .i64 0, .int .i64 0], .bool false]) (by simp [results, Tryz.results27, go_sem, v0, v1, v2]) rfl ⟨⟨none, 0, 0, rfl, fun h => by cases h⟩, bw_set3 (bw_trans BW J) (by omega) _ _ _⟩
  · have hn := (rV_iff r).1 hr
    obtain ⟨c1, c2⟩ := hn
    have hK := fun V => toolOk_any r V
    rw [hr] at hK
    cases hv : plV o hs
    · obtain ⟨t0, t1⟩ := blk_2 TP
      go_enter Tryz.func27, Tryz.ntmps27
      go_upto_region 1 with fail
      rw [← hW]
      clear hW
      go_wp2_with fail
      refine (hK _).mono ?_
      rintro e w0 ⟨rfl, J0⟩
      replace TP := keep J0 TP
      replace RB := keep J0 RB
      replace BW := bw_trans BW J0
      clear hK J0 t0 t1
      obtain ⟨t0, t1⟩ := blk_2 TP
      have zP := blk_lt TP
      have zR := blk_lt RB
      have zB := BW.size
      go_wp2_with fail
      refine (board_any0 a ah la ca nh ch o hs _ _ zB (h.base BW)).mono ?_
      rw [hv]
      rintro e w1 ⟨q, rfl, J, _⟩
      have RB1 := keep J RB
      obtain ⟨q0, q1, q2, f0, f1, f2⟩ := blkF3 RB1
      have RB2 := setF3 RB1 (u0 := .pointer none) (u1 := .int .i64 0) (u2 := .int .i64 0)
      obtain ⟨v0, v1, v2, _, _, _⟩ := blkF3 RB2
      go_wp2_with fail
      exact bodyPost_ret (v := .tuple #[.agg #[.pointer none, .int .i64 0, .int .i64 0], .bool false]) (by simp [results, Tryz.results27, go_sem, v0, v1, v2]) rfl ⟨⟨none, 0, 0, rfl, fun h => by cases h⟩, bw_set3 (bw_trans BW J) (by omega) _ _ _⟩
    · obtain ⟨t0, t1⟩ := blk_2 TP
      go_enter Tryz.func27, Tryz.ntmps27
      go_upto_region 1 with fail
      rw [← hW]
      clear hW
      go_wp2_with fail
      refine (hK _).mono ?_
      rintro e w0 ⟨rfl, J0⟩
      replace TP := keep J0 TP
      replace RB := keep J0 RB
      replace BW := bw_trans BW J0
      clear hK J0 t0 t1
      obtain ⟨t0, t1⟩ := blk_2 TP
      have zP := blk_lt TP
      have zR := blk_lt RB
      have zB := BW.size
      go_wp2_with fail
      refine (board_any0 a ah la ca nh ch o hs _ _ zB (h.base BW)).mono ?_
      rintro e w1 ⟨q, rfl, J, hR⟩
      obtain ⟨b, xs, rfl, hR, hx⟩ := hR hv
      rw [hv]
      have hG := grid_one r (by omega) (by omega) ad w1 (h0.below (bw_trans BW J))
      go_wp2_with fail
      have zJ1 := J.size
      refine hG.mono ?_
      rintro e w2 ⟨rfl, J2⟩
      have RB1 := keep (bw_trans J J2) RB
      obtain ⟨q0, q1, q2, f0, f1, f2⟩ := blkF3 RB1
      have RB2 := setF3 RB1 (u0 := .pointer (some ⟨b, 0, none⟩)) (u1 := .int .i64 r) (u2 := .int .i64 1)
      obtain ⟨v0, v1, v2, _, _, _⟩ := blkF3 RB2
      go_wp2_with fail
      have hRx : RingL w.heap.size _ (some ⟨b, 0, none⟩) (⟨a, la, ca, o⟩ :: xs) := ringL_set (i := 2) (setRow (setRow RB1 0 (.pointer (some ⟨b, 0, none⟩))) 1 (.int .i64 r)) (by simp) (by omega) (.int .i64 1) (ringL_set (i := 1) (setRow RB1 0 (.pointer (some ⟨b, 0, none⟩))) (by simp) (by omega) (.int .i64 r) (ringL_set (i := 0) RB1 rfl (by omega) (.pointer (some ⟨b, 0, none⟩)) (hR.below J2 (by omega))))
      refine bodyPost_ret (v := .tuple #[.agg #[.pointer (some ⟨b, 0, none⟩), .int .i64 r, .int .i64 1], .bool true]) (by simp [results, Tryz.results27, go_sem, v0, v1, v2]) rfl ⟨⟨_, r, 1, rfl, fun _ => ⟨rfl, rfl, b, xs, rfl, hRx, hx⟩⟩, bw_set3 (bw_trans (bw_trans BW J) J2) (by omega) _ _ _⟩
theorem boardHas_any (b : Nat) (o : RingT) (hs : List RingT) (p : P2) (w : World) (hR : RingL w.heap.size w (some ⟨b, 0, none⟩) (o :: hs)) (hok : ((o :: hs).all fun x => okV x.pts) = true) (hp : ptB p.1 p.2 = true) :
    Calls Tryz.prog 47 #[.pointer (some ⟨b, 0, none⟩), .agg #[.int .i64 p.1, .int .i64 p.2]] w fun e W' => e = .returned (.bool (decide (plI o.pts (hs.map RingT.pts) p = 1))) ∧ Below w.heap.size w W' := by
  obtain ⟨W, hW, BW, T⟩ : ∃ W, W = w.alloc (.cells #[.int .i64 p.1, .int .i64 p.2] 43) ∧ Below w.heap.size w W ∧ W.heap[w.heap.size]? = some (.cells #[.int .i64 p.1, .int .i64 p.2] 43) := ⟨_, rfl, (by repeat (first | exact bw_refl _ | assumption | apply bw_drewN | apply bw_drew | apply bw_alloc | refine bw_set ?_ (by simp) _)), heap_new _ _⟩
  have hcall := boardIn_any b o hs p W ((hR.below BW (Nat.le_refl _)).grow BW.size) hok hp
  obtain ⟨t0, t1⟩ := blk_2 T
  generalize plI o.pts (hs.map RingT.pts) p = u at *
  go_enter Tryz.func47, Tryz.ntmps47
  go_upto_region 1 with fail
  rw [← hW]
  clear hW
  go_wp2_with fail
  refine hcall.mono ?_
  rintro e w1 ⟨rfl, J⟩
  go_wp2_with fail
  go_ret
  exact ⟨by first | rfl | simp, bw_trans BW J⟩
theorem spares_any (q : Option Addr) (n d : Int) (f : Int × Int) (ad : Addr) (w : World) (h0 : Sent ad w) :
    Calls Tryz.prog 48 #[.agg #[.pointer q, .int .i64 n, .int .i64 d], .agg #[.int .i64 f.1, .int .i64 f.2]] w fun e W' => e = .returned (.bool (decide (cmpV n d f.1 f.2 ≤ 0))) ∧ Below w.heap.size w W' := by
  obtain ⟨W, hW, BW, T, F⟩ := boxes2 w (.cells #[.pointer q, .int .i64 n, .int .i64 d] 63) (.cells #[.int .i64 f.1, .int .i64 f.2] 61)
  have hcall := fracCmp_any n d f.1 f.2 ad W (h0.below BW)
  obtain ⟨t0, t1, t2⟩ := blk_3 T
  obtain ⟨f0, f1⟩ := blk_2 F
  generalize cmpV n d f.1 f.2 = u at *
  go_enter Tryz.func48, Tryz.ntmps48
  go_upto_region 1 with fail
  rw [← hW]
  clear hW
  go_wp2_with fail
  refine hcall.mono ?_
  rintro e w1 ⟨rfl, J⟩
  go_wp2_with fail
  go_ret
  exact ⟨by first | rfl | simp, bw_trans BW J⟩
set_option maxRecDepth 100000 in
set_option maxHeartbeats 1000000 in
/-- Where it is known to be a tool on a plate, it fits just if it does. -/
theorem fits_any (b : Nat) (o : RingT) (xs : List RingT) (hs : List (List P2)) (r : Int) (p : P2) (ad : Addr) (w : World) (h0 : Sent ad w) (hR : RingL w.heap.size w (some ⟨b, 0, none⟩) (o :: xs)) (hx : xs.map RingT.pts = hs) (hv : plV o.pts hs = true) (hr : rV r = true) (hp : ptB p.1 p.2 = true) :
    Calls Tryz.prog 29 #[.agg #[.pointer (some ⟨b, 0, none⟩), .int .i64 r, .int .i64 1], .agg #[.int .i64 p.1, .int .i64 p.2]] w fun e W' => e = .returned (.bool (fitI o.pts hs r p)) ∧ Below w.heap.size w W' := by
  obtain ⟨W, hW, BW, T, Z⟩ := boxes2 w (.cells #[.pointer (some ⟨b, 0, none⟩), .int .i64 r, .int .i64 1] 63) (.cells #[.int .i64 p.1, .int .i64 p.2] 43)
  have L := (plV_iff _ _).1 hv
  have hall : ((o :: xs).all fun x => okV x.pts) = true := by
    rw [List.all_eq_true]
    intro x hx'
    rcases List.mem_cons.1 hx' with e | e
    · subst e; exact L.out
    · exact L.ok _ (by rw [← hx]; exact List.mem_map.2 ⟨x, e, rfl⟩)
  have n3 := plE_ne hv
  have n24 := plE_len o.pts hs
  have hfo : ∀ s ∈ plE o.pts hs, OkF (farS p s) := fun s hs => farS_ok (plE_ok hv hs) hp
  have hE : edgR (o :: xs) = plE o.pts hs := by rw [edgR_eq _ _ hs hx, plE_eq hv]
  have hRW := (hR.below BW (Nat.le_refl _)).grow BW.size
  have HH : Hid (∀ w', Below W.heap.size W w' → Calls Tryz.prog 47 #[.pointer (some ⟨b, 0, none⟩), .agg #[.int .i64 p.1, .int .i64 p.2]] w' fun e W' => e = .returned (.bool (decide (plI o.pts hs p = 1))) ∧ Below w'.heap.size w' W') := fun w' J => by
    have := boardHas_any b o xs p w' ((hRW.below J (Nat.le_refl _)).grow J.size) hall hp
    rwa [hx] at this
  have HF : Hid (∀ w', Below W.heap.size W w' → Calls Tryz.prog 49 #[.pointer (some ⟨b, 0, none⟩), .agg #[.int .i64 p.1, .int .i64 p.2]] w' fun e W' => e = .returned (.agg #[.int .i64 (plFI o.pts hs p).1, .int .i64 (plFI o.pts hs p).2]) ∧ Below w'.heap.size w' W') := fun w' J => by
    have := boardFar_any b (o :: xs) p ad w' (h0.below (bw_trans BW J)) (RingL.ringN (Nat.le_refl _) ((hRW.below J (Nat.le_refl _)).grow J.size)) (by rw [hE]; omega) (by rw [hE]; omega) (by rw [hE]; exact hfo)
    rwa [hE] at this
  have HS : Hid (∀ w', Below W.heap.size W w' → Calls Tryz.prog 48 #[.agg #[.pointer (some ⟨b, 0, none⟩), .int .i64 r, .int .i64 1], .agg #[.int .i64 (plFI o.pts hs p).1, .int .i64 (plFI o.pts hs p).2]] w' fun e W' => e = .returned (.bool (spB r (plFI o.pts hs p))) ∧ Below w'.heap.size w' W') := fun w' J => by
    have := spares_any (some ⟨b, 0, none⟩) r 1 (plFI o.pts hs p) ad w' (h0.below (bw_trans BW J))
    rwa [sp_cmp hr (plFI_ok hv hp)] at this
  have HV : Hid (fitI o.pts hs r p = (decide (plI o.pts hs p = 1) && spB r (plFI o.pts hs p))) := rfl
  rw [HV.out]
  clear hfo hE hRW hall hR hv hx n3 n24 L HV
  generalize plFI o.pts hs p = f at *
  generalize decide (plI o.pts hs p = 1) = bi at *
  generalize spB r f = bs at *
  obtain ⟨t0, t1, t2⟩ := reg_3 T
  obtain ⟨z0, z1⟩ := reg_2 Z
  have HH2 : Hid (∀ d os, Calls Tryz.prog 47 #[.pointer (some ⟨b, 0, none⟩), .agg #[.int .i64 p.1, .int .i64 p.2]] (grow (redrawn W d) os) fun e W' => e = .returned (.bool bi) ∧ Below (grow (redrawn W d) os).heap.size (grow (redrawn W d) os) W') := fun d os => HH.out _ (below_regrown W d os)
  have HF2 : Hid (∀ d os, Calls Tryz.prog 49 #[.pointer (some ⟨b, 0, none⟩), .agg #[.int .i64 p.1, .int .i64 p.2]] (grow (redrawn W d) os) fun e W' => e = .returned (.agg #[.int .i64 f.1, .int .i64 f.2]) ∧ Below (grow (redrawn W d) os).heap.size (grow (redrawn W d) os) W') := fun d os => HF.out _ (below_regrown W d os)
  have HS2 : Hid (∀ d os, Calls Tryz.prog 48 #[.agg #[.pointer (some ⟨b, 0, none⟩), .int .i64 r, .int .i64 1], .agg #[.int .i64 f.1, .int .i64 f.2]] (grow (redrawn W d) os) fun e W' => e = .returned (.bool bs) ∧ Below (grow (redrawn W d) os).heap.size (grow (redrawn W d) os) W') := fun d os => HS.out _ (below_regrown W d os)
  clear HH HF HS
  go_enter Tryz.func29, Tryz.ntmps29
  go_upto_region 1 with fail
  rw [← hW]
  clear hW
  cases bi
  · refine wp_region_quiet_below (by kernel_rfl) (by kernel_rfl) ?_
    repeat (first | go_big_quiet_step (first | (go_at_call 47; with_reducible exact Calls.regrown_of (HH2.out _ _))))
    refine wpQuiet_nil ?_
    intro _ hw'
    obtain ⟨⟨dq, osq⟩, hw''⟩ := hw'
    subst hw''
    have J := below_regrown W dq osq
    generalize grow (redrawn W dq) osq = v at J ⊢
    go_wp2_with fail
    go_ret
    exact ⟨by first | rfl | simp, bw_trans BW J⟩
  · refine wp_region_quiet_below (by kernel_rfl) (by kernel_rfl) ?_
    repeat (first | go_big_quiet_step (first | (go_at_call 47; with_reducible exact Calls.regrown_of (HH2.out _ _)) | (go_at_call 49; with_reducible exact Calls.regrown_of (HF2.out _ _)) | (go_at_call 48; with_reducible exact Calls.regrown_of (HS2.out _ _))))
    refine wpQuiet_nil ?_
    intro _ hw'
    obtain ⟨⟨dq, osq⟩, hw''⟩ := hw'
    subst hw''
    have J := below_regrown W dq osq
    generalize grow (redrawn W dq) osq = v at J ⊢
    go_wp2_with fail
    go_ret
    exact ⟨by first | rfl | simp, bw_trans BW J⟩
set_option maxRecDepth 100000 in
set_option maxHeartbeats 2000000 in
theorem toolFits_any (a ah : Option Addr) (la ca nh ch : Nat) (o : List P2) (hs : List (List P2)) (r : Int) (p : P2) (ad : Addr) (w : World) (h0 : Sent ad w) (h : Plt w a la ah nh o hs) :
    Calls Tryz.prog 14 #[.agg #[.slice a la ca, .slice ah nh ch], .int .i64 r, .agg #[.int .i64 p.1, .int .i64 p.2]] w fun e W' => e = .returned (.bool (fitV o hs r p)) ∧ Below w.heap.size w W' := by
  obtain ⟨W, hW, BW, TP, T⟩ := boxes2 w (.cells #[.slice a la ca, .slice ah nh ch] 32) (.cells #[.int .i64 p.1, .int .i64 p.2] 43)
  have hT := toolOn_any a ah la ca nh ch o hs r ad W (h0.below BW) (h.below BW)
  have zB := BW.size
  have hzT := blk_lt T
  obtain ⟨t0, t1⟩ := blk_2 TP
  cases hrv : rV r && plV o hs
  · have e1 : Hid (fitV o hs r p = false) := by change _ = _; unfold fitV; rw [hrv]; rfl
    rw [hrv] at hT
    go_enter Tryz.func14, Tryz.ntmps14
    go_upto_region 1 with fail
    rw [← hW]
    clear hW
    go_wp2_with fail
    refine hT.mono ?_
    rintro e w1 ⟨⟨q, n, d, rfl, -⟩, J⟩
    obtain ⟨W1, hW1, B1, F⟩ : ∃ W1, W1 = w1.alloc (.cells #[.pointer q, .int .i64 n, .int .i64 d] 63) ∧ Below w1.heap.size w1 W1 ∧ W1.heap[w1.heap.size]? = some (.cells #[.pointer q, .int .i64 n, .int .i64 d] 63 (0, 0)) := ⟨_, rfl, (by repeat (first | exact bw_refl _ | assumption | apply bw_drewN | apply bw_drew | apply bw_alloc | refine bw_set ?_ (by simp) _)), heap_new _ _⟩
    go_upto_region 2 with fail
    rw [← hW1]
    clear hW1
    go_wp2_with fail
    go_ret
    exact ⟨by rw [e1.out]; rfl, bw_trans (bw_trans BW J) B1⟩
  rw [hrv] at hT
  rw [Bool.and_eq_true] at hrv
  obtain ⟨hr, hv⟩ := hrv
  cases hp : ptB p.1 p.2
  · have e1 : Hid (fitV o hs r p = false) := by change _ = _; unfold fitV; rw [hr, hv, hp]; rfl
    go_enter Tryz.func14, Tryz.ntmps14
    go_upto_region 1 with fail
    rw [← hW]
    clear hW
    go_wp2_with fail
    refine hT.mono ?_
    rintro e w1 ⟨⟨q, n, d, rfl, -⟩, J⟩
    obtain ⟨W1, hW1, B1, F⟩ : ∃ W1, W1 = w1.alloc (.cells #[.pointer q, .int .i64 n, .int .i64 d] 63) ∧ Below w1.heap.size w1 W1 ∧ W1.heap[w1.heap.size]? = some (.cells #[.pointer q, .int .i64 n, .int .i64 d] 63 (0, 0)) := ⟨_, rfl, (by repeat (first | exact bw_refl _ | assumption | apply bw_drewN | apply bw_drew | apply bw_alloc | refine bw_set ?_ (by simp) _)), heap_new _ _⟩
    have K := bw_trans J B1
    replace T := keep K T
    clear t0 t1
    obtain ⟨t0, t1⟩ := blk_2 T
    go_upto_region 2 with fail
    rw [← hW1]
    clear hW1
    go_wp2_with fail
    refine (pt_raw p _).mono ?_
    rw [hp]
    rintro e w2 ⟨rfl, J2⟩
    go_wp2_with fail
    go_ret
    exact ⟨by rw [e1.out]; rfl, bw_trans (bw_trans BW K) J2⟩
  · have e1 : Hid (fitV o hs r p = fitI o hs r p) := fitV_ok hr hv hp
    go_enter Tryz.func14, Tryz.ntmps14
    go_upto_region 1 with fail
    rw [← hW]
    clear hW
    go_wp2_with fail
    refine hT.mono ?_
    rintro e w1 ⟨⟨q, n, d, rfl, hR0⟩, J⟩
    obtain ⟨rfl, rfl, b, xs, rfl, hR, hx⟩ := hR0 rfl
    clear hR0
    obtain ⟨W1, hW1, B1, F⟩ : ∃ W1, W1 = w1.alloc (.cells #[.pointer (some ⟨b, 0, none⟩), .int .i64 n, .int .i64 1] 63) ∧ Below w1.heap.size w1 W1 ∧ W1.heap[w1.heap.size]? = some (.cells #[.pointer (some ⟨b, 0, none⟩), .int .i64 n, .int .i64 1] 63 (0, 0)) := ⟨_, rfl, (by repeat (first | exact bw_refl _ | assumption | apply bw_drewN | apply bw_drew | apply bw_alloc | refine bw_set ?_ (by simp) _)), heap_new _ _⟩
    have K := bw_trans J B1
    have zJ := J.size
    have zB1 := B1.size
    replace T := keep K T
    clear t0 t1
    obtain ⟨t0, t1⟩ := blk_2 T
    go_upto_region 2 with fail
    rw [← hW1]
    clear hW1
    go_wp2_with fail
    refine (pt_raw p _).mono ?_
    rw [hp]
    rintro e w2 ⟨rfl, J2⟩
    have zJ2 := J2.size
    have K2 := bw_trans (bw_trans BW K) J2
    replace T := keep J2 T
    replace F := keep J2 F
    clear t0 t1
    obtain ⟨t0, t1⟩ := blk_2 T
    obtain ⟨f0, f1, f2⟩ := blk_3 F
    have hF := fits_any b ⟨a, la, ca, o⟩ xs hs n p ad w2 (h0.below K2) (((hR.below B1 (by omega)).below J2 (by omega)).grow (by omega)) hx hv hr hp
    go_wp2_with fail
    refine hF.mono ?_
    rintro e w3 ⟨rfl, J3⟩
    go_wp2_with fail
    go_ret
    exact ⟨by rw [e1.out]; rfl, bw_trans K2 J3⟩
end Go.Proofs.YtkncejcpeejkkaaGreatDoor
namespace Go.Proofs.YtkncejcpeejkkaaGreatDoor
open Go.RowKit Go.Shelf Go.Sort
attribute [local go_sem] Oper.semAt_some

/-- The tool does not cut an edge from there to there. -/
def clB (n d : Int) (a b : P2) (s : P2 × P2) : Bool := decide (cmpV n d (apartV a.1 a.2 b.1 b.2 s.1.1 s.1.2 s.2.1 s.2.2).1 (apartV a.1 a.2 b.1 b.2 s.1.1 s.1.2 s.2.1 s.2.2).2 ≤ 0)
set_option maxRecDepth 100000 in
set_option maxHeartbeats 4000000 in
theorem clears_in (N : Nat) (hn : 12 ≤ N) (b : Nat) (rs : List RingT) (n d : Int) (p q : P2) (ad : Addr) (w : World) (h0 : Sent ad w) (hR : RingN w.heap.size w (some ⟨b, 0, none⟩) rs) :
    CallsIn Fence.wide N Tryz.prog 51 #[.agg #[.pointer (some ⟨b, 0, none⟩), .int .i64 n, .int .i64 d], .agg #[.int .i64 p.1, .int .i64 p.2], .agg #[.int .i64 q.1, .int .i64 q.2]] w fun e W' => e = .returned (.bool ((edgR rs).all (clB n d p q))) ∧ Below w.heap.size w W' := by
  have h1 : 1 ≤ N := by omega
  have hmx : Tryz.prog.follows .mixedOrders = true := by kernel_rfl
  refine callsIn_of_wp_marks Tryz.func51 rfl trivial ?_ rfl
  simp only [Tryz.ntmps51, List.size_toArray, List.length_cons, List.length_nil, Nat.reduceAdd, Nat.reduceSub, Array.replicate_succ, Array.replicate_zero, List.push_toArray, List.append_toArray, List.nil_append, List.cons_append]
  gi_wp2_with (refine ⟨trivial, ?_⟩; gi_at_call 70; refine (ringEdges_in (N - 1) _ _).mono ?_; rintro e w' ⟨rfl, rfl⟩)
  have Q0 := ((((((Lies.new' w (w.heap.size) (by simp) #[.pointer (some ⟨b, 0, none⟩), .int .i64 n, .int .i64 d] 63).alloc (.cells #[.int .i64 p.1, .int .i64 p.2] 43)).alloc (.cells #[.int .i64 q.1, .int .i64 q.2] 43)).alloc (.cells #[.bool false] 4)).alloc (.cells #[.int .i64 p.1, .int .i64 p.2, .int .i64 q.1, .int .i64 q.2] 75)).alloc (.cells #[.pointer (some ⟨b, 0, none⟩)] 95))
  have Q3 := (((Lies.new' (((w.alloc (.cells #[.pointer (some ⟨b, 0, none⟩), .int .i64 n, .int .i64 d] 63)).alloc (.cells #[.int .i64 p.1, .int .i64 p.2] 43)).alloc (.cells #[.int .i64 q.1, .int .i64 q.2] 43)) (w.heap.size + 1 + 1 + 1) (by simp) #[.bool false] 4).alloc (.cells #[.int .i64 p.1, .int .i64 p.2, .int .i64 q.1, .int .i64 q.2] 75)).alloc (.cells #[.pointer (some ⟨b, 0, none⟩)] 95))
  have Q4 := ((Lies.new' ((((w.alloc (.cells #[.pointer (some ⟨b, 0, none⟩), .int .i64 n, .int .i64 d] 63)).alloc (.cells #[.int .i64 p.1, .int .i64 p.2] 43)).alloc (.cells #[.int .i64 q.1, .int .i64 q.2] 43)).alloc (.cells #[.bool false] 4)) (w.heap.size + 1 + 1 + 1 + 1) (by simp) #[.int .i64 p.1, .int .i64 p.2, .int .i64 q.1, .int .i64 q.2] 75).alloc (.cells #[.pointer (some ⟨b, 0, none⟩)] 95))
  have Q5 := (Lies.new' (((((w.alloc (.cells #[.pointer (some ⟨b, 0, none⟩), .int .i64 n, .int .i64 d] 63)).alloc (.cells #[.int .i64 p.1, .int .i64 p.2] 43)).alloc (.cells #[.int .i64 q.1, .int .i64 q.2] 43)).alloc (.cells #[.bool false] 4)).alloc (.cells #[.int .i64 p.1, .int .i64 p.2, .int .i64 q.1, .int .i64 q.2] 75)) (w.heap.size + 1 + 1 + 1 + 1 + 1) (by simp) #[.pointer (some ⟨b, 0, none⟩)] 95)
  have hB0 : Below w.heap.size w ((((((w.alloc (.cells #[.pointer (some ⟨b, 0, none⟩), .int .i64 n, .int .i64 d] 63)).alloc (.cells #[.int .i64 p.1, .int .i64 p.2] 43)).alloc (.cells #[.int .i64 q.1, .int .i64 q.2] 43)).alloc (.cells #[.bool false] 4)).alloc (.cells #[.int .i64 p.1, .int .i64 p.2, .int .i64 q.1, .int .i64 q.2] 75)).alloc (.cells #[.pointer (some ⟨b, 0, none⟩)] 95)) := (by repeat (first | exact bw_refl _ | assumption | apply bw_drewN | apply bw_drew | apply bw_alloc | refine bw_set ?_ (by simp) _))
  have hsz : (((((((w.alloc (.cells #[.pointer (some ⟨b, 0, none⟩), .int .i64 n, .int .i64 d] 63)).alloc (.cells #[.int .i64 p.1, .int .i64 p.2] 43)).alloc (.cells #[.int .i64 q.1, .int .i64 q.2] 43)).alloc (.cells #[.bool false] 4)).alloc (.cells #[.int .i64 p.1, .int .i64 p.2, .int .i64 q.1, .int .i64 q.2] 75)).alloc (.cells #[.pointer (some ⟨b, 0, none⟩)] 95))).heap.size = w.heap.size + 6 := by simp
  obtain ⟨W0, hW0⟩ : ∃ W0, ((((((w.alloc (.cells #[.pointer (some ⟨b, 0, none⟩), .int .i64 n, .int .i64 d] 63)).alloc (.cells #[.int .i64 p.1, .int .i64 p.2] 43)).alloc (.cells #[.int .i64 q.1, .int .i64 q.2] 43)).alloc (.cells #[.bool false] 4)).alloc (.cells #[.int .i64 p.1, .int .i64 p.2, .int .i64 q.1, .int .i64 q.2] 75)).alloc (.cells #[.pointer (some ⟨b, 0, none⟩)] 95)) = W0 := ⟨_, rfl⟩
  rw [hW0] at Q0 Q3 Q4 Q5 hB0 hsz ⊢
  clear hW0
  have hseq := ringE_seqS (N - 1) (by omega) (w.heap.size + 1 + 1 + 1 + 1 + 1) w.heap.size (some ⟨b, 0, none⟩) rs W0 Q5.c1 (by omega) (hR.keep hB0)
  refine wpIn_rangeOS rfl h1 (gf := 86) (lb := #[.pointer (some ⟨w.heap.size + 1 + 1 + 1 + 1 + 1, 0, none⟩)]) rfl trivial (enters_of Tryz.func86 (by kernel_rfl) rfl)
    hseq KT_t (KT_b (by omega)) (Below.refl _ _) (fun _ => rfl)
    (fun pre W => ((∀ x ∈ pre, clB n d p q x = true) ∧ Lies w.heap.size #[.pointer (some ⟨b, 0, none⟩), .int .i64 n, .int .i64 d] 63 W ∧ Lies (w.heap.size + 1 + 1 + 1) #[.bool false] 4 W ∧ Lies (w.heap.size + 1 + 1 + 1 + 1) #[.int .i64 p.1, .int .i64 p.2, .int .i64 q.1, .int .i64 q.2] 75 W) ∧ Below w.heap.size w W)
    (fun c pre W => ((c = .ret ∧ ∃ x ∈ pre, clB n d p q x = false) ∧ Lies (w.heap.size + 1 + 1 + 1) #[.bool false] 4 W) ∧ Below w.heap.size w W)
    (OwnFrom.and (OwnFrom.and (ownFrom_pure _ _) (OwnFrom.and (lies_from _ _ _ _) (OwnFrom.and (lies_from _ _ _ _) (lies_from _ _ _ _)))) (ownFrom_below (Nat.le_refl _) (by omega)))
    (fun c => OwnFrom.and (OwnFrom.and (ownFrom_pure _ _) (lies_from _ _ _ _)) (ownFrom_below (Nat.le_refl _) (by omega)))
    ⟨⟨by simp, Q0, Q3, Q4⟩, hB0⟩
    (fun x a' W => ∃ Bx, w.heap.size + 1 + 1 + 1 + 1 < Bx ∧ Lies Bx #[.int .i64 x.1.1, .int .i64 x.1.2, .int .i64 x.2.1, .int .i64 x.2.2] 75 W ∧ a' = { tmps := #[.agg #[.pointer (some ⟨b, 0, none⟩), .int .i64 n, .int .i64 d], .agg #[.int .i64 p.1, .int .i64 p.2], .agg #[.int .i64 q.1, .int .i64 q.2], .pointer (some ⟨w.heap.size, 0, none⟩), .pointer (some ⟨w.heap.size + 1, 0, none⟩), .pointer (some ⟨w.heap.size + 1 + 1, 0, none⟩), .pointer (some ⟨w.heap.size + 1 + 1 + 1, 0, none⟩), .pointer (some ⟨w.heap.size + 1 + 1 + 1 + 1, 0, none⟩), .pointer (some ⟨Bx, 0, none⟩), .agg #[.int .i64 p.1, .int .i64 p.2], .agg #[.int .i64 q.1, .int .i64 q.2], .agg #[.int .i64 p.1, .int .i64 p.2, .int .i64 q.1, .int .i64 q.2], .pointer (some ⟨w.heap.size, 0, none⟩), .pointer (some ⟨b, 0, none⟩), .pointer (some ⟨b, 0, none⟩), .pointer (some ⟨b, 0, none⟩), .func (.func 86) #[] #[.pointer (some ⟨w.heap.size + 1 + 1 + 1 + 1 + 1, 0, none⟩)], .agg #[.int .i64 x.1.1, .int .i64 x.1.2, .int .i64 x.2.1, .int .i64 x.2.2], undef, undef, undef, undef, undef, undef], defers := [] })
    (fun x a' _ X Y row hs hg hr => by obtain ⟨Bx, e1, e2, e3⟩ := hs; exact ⟨Bx, e1, lies_own (β := Unit) Bx _ _ () X Y row e2 hg (fun r e => (hr r e).2), e3⟩)
    ?assign ?body ?done ?stop
  case assign =>
    rintro l pre x W K ⟨⟨hp, M0, M3, M4⟩, hB1⟩ hK
    unfold segE
    have hB3 : Below W.heap.size W (W.alloc (.cells #[.int .i64 x.1.1, .int .i64 x.1.2, .int .i64 x.2.1, .int .i64 x.2.2] 75)) := (by repeat (first | exact bw_refl _ | assumption | apply bw_drewN | apply bw_drew | apply bw_alloc | refine bw_set ?_ (by simp) _))
    gi_wp2
    exact hK _ _ ((KeepsOthers.alloc _ _).from _) (KT.of_below hB3 hB1.size) ⟨⟨hp, M0.alloc _, M3.alloc _, M4.alloc _⟩, hB1.alloc hB1.size _⟩ ⟨W.heap.size, M4.lt, Lies.new W _ _, rfl⟩
  case body =>
    rintro l pre x a' W hl2 ⟨⟨hp, M0, M3, M4⟩, hB1⟩ ⟨Bx, hBx, bX, rfl⟩ hlt
    have hzW := hB1.size
    have hsW := h0.below hB1
    obtain ⟨bv, hbv⟩ : ∃ bv, clB n d p q x = bv := ⟨_, rfl⟩
    obtain ⟨f, hf⟩ : ∃ f, apartV p.1 p.2 q.1 q.2 x.1.1 x.1.2 x.2.1 x.2.2 = f := ⟨_, rfl⟩
    have HA : Hid (∀ d' os, Calls Tryz.prog 71 #[.agg #[.int .i64 p.1, .int .i64 p.2, .int .i64 q.1, .int .i64 q.2], .agg #[.int .i64 x.1.1, .int .i64 x.1.2, .int .i64 x.2.1, .int .i64 x.2.2]] (grow (redrawn W d') os) fun e w' => e = .returned (.agg #[.int .i64 f.1, .int .i64 f.2]) ∧ Below (grow (redrawn W d') os).heap.size (grow (redrawn W d') os) w') := fun d' os => by
      have := segApart_any p.1 p.2 q.1 q.2 x.1.1 x.1.2 x.2.1 x.2.2 ad _ (hsW.below (below_regrown W d' os))
      rwa [hf] at this
    have HS : Hid (∀ d' os, Calls Tryz.prog 48 #[.agg #[.pointer (some ⟨b, 0, none⟩), .int .i64 n, .int .i64 d], .agg #[.int .i64 f.1, .int .i64 f.2]] (grow (redrawn W d') os) fun e W' => e = .returned (.bool bv) ∧ Below (grow (redrawn W d') os).heap.size (grow (redrawn W d') os) W') := fun d' os => by
      have := spares_any (some ⟨b, 0, none⟩) n d f ad _ (hsW.below (below_regrown W d' os))
      rw [← hbv]; unfold clB; rw [hf]; exact this
    obtain ⟨m0, m1, m2⟩ := reg_3 (show W.heap[w.heap.size]? = _ from M0)
    obtain ⟨y0, y1, y2, y3⟩ := reg_4 (show W.heap[w.heap.size + 1 + 1 + 1 + 1]? = _ from M4)
    obtain ⟨x0, x1, x2, x3⟩ := reg_4 (show W.heap[Bx]? = _ from bX)
    have HB : Hid (clB n d p q x = bv) := hbv
    clear hf hbv
    cases bv
    · gi_wp2
      refine wpIn_round_quiet hmx (by kernel_rfl) (by kernel_rfl) ?_
      repeat (first | go_big_quiet_step (first | (go_at_call 71; with_reducible exact Calls.regrown_of (HA.out _ _)) | (go_at_call 48; with_reducible exact Calls.regrown_of (HS.out _ _))))
      refine wpQuiet_nil ?_
      intro _ hw'
      obtain ⟨⟨dq, osq⟩, hw''⟩ := hw'
      subst hw''
      have J := below_regrown W dq osq
      generalize grow (redrawn W dq) osq = w1 at J ⊢
      have M3' := M3.below J
      have c3 := M3'.c1
      have f3 := M3'.f1
      gi_wp2
      exact ⟨((KeepsOthers.of_below J).trans (KeepsOthers.setCell _ _ _)).from _, ⟨⟨rfl, x, List.mem_append.2 (.inr (by simp)), HB.out⟩, M3'.set1 _⟩, (bw_trans hB1 J).setCell (p := ⟨w.heap.size + 1 + 1 + 1, 0, none⟩) (by simp; omega) _⟩
    · gi_wp2
      refine wpIn_round_quiet hmx (by kernel_rfl) (by kernel_rfl) ?_
      repeat (first | go_big_quiet_step (first | (go_at_call 71; with_reducible exact Calls.regrown_of (HA.out _ _)) | (go_at_call 48; with_reducible exact Calls.regrown_of (HS.out _ _))))
      refine wpQuiet_nil ?_
      intro _ hw'
      obtain ⟨⟨dq, osq⟩, hw''⟩ := hw'
      subst hw''
      have J := below_regrown W dq osq
      generalize grow (redrawn W dq) osq = w1 at J ⊢
      gi_wp2
      exact ⟨(KeepsOthers.of_below J).from _, KT.of_below J hzW, ⟨fun z hz => (List.mem_append.1 hz).elim (hp z) (fun e => by simp at e; rw [e]; exact HB.out), M0.below J, M3.below J, M4.below J⟩, bw_trans hB1 J⟩
  case done =>
    rintro D W hD ⟨⟨hp, M0, M3, M4⟩, hB1⟩ hK
    have cR := M3.c1
    have fR := M3.f1
    gi_wp2
    have hK' := (KeepsOthers.setCell W ⟨w.heap.size + 1 + 1 + 1, 0, none⟩ (.bool true)).same D _ hK rfl
    refine ⟨by simp, .inl ⟨_, _, rfl, run_takeDeferred hK', ?_⟩⟩
    have hc5 := ((M3.set1 (.bool true)).put (.deferred none) hK' rfl).c1
    refine ⟨.bool true, ?_, ?_, (hB1.setCell (p := ⟨w.heap.size + 1 + 1 + 1, 0, none⟩) (by simp; omega) _).trans (belowK_b (w := w) (Nat.le_refl _) _ D _ _ (by omega) hK' rfl rfl)⟩
    · simp [results, Tryz.f51, go_sem, hc5]
    · rw [List.all_eq_true.2 hp]
  case stop =>
    rintro D c pre W hD hpre ⟨⟨⟨rfl, x, hx, hbx⟩, M3⟩, hB1⟩ hK
    gi_wp2
    refine ⟨by simp, .inl ⟨_, _, rfl, run_takeDeferred hK, ?_⟩⟩
    have hc5 := (M3.put (.deferred none) hK rfl).c1
    refine ⟨.bool false, ?_, ?_, hB1.trans (belowK_b (w := w) (Nat.le_refl _) _ D _ _ (by omega) hK rfl rfl)⟩
    · simp [results, Tryz.f51, go_sem, hc5]
    · have : (edgR rs).all (clB n d p q) = false := by
        rw [Bool.eq_false_iff]
        intro hc
        have := List.all_eq_true.1 hc x (hpre.subset hx)
        rw [hbx] at this; cases this
      rw [this]
theorem clears_any (b : Nat) (rs : List RingT) (n d : Int) (p q : P2) (ad : Addr) (w : World) (h0 : Sent ad w) (hR : RingN w.heap.size w (some ⟨b, 0, none⟩) rs) :
    Calls Tryz.prog 51 #[.agg #[.pointer (some ⟨b, 0, none⟩), .int .i64 n, .int .i64 d], .agg #[.int .i64 p.1, .int .i64 p.2], .agg #[.int .i64 q.1, .int .i64 q.2]] w fun e W' => e = .returned (.bool ((edgR rs).all (clB n d p q))) ∧ Below w.heap.size w W' :=
  callsIn_wide.1 (clears_in 12 (Nat.le_refl _) b rs n d p q ad w h0 hR)
end Go.Proofs.YtkncejcpeejkkaaGreatDoor
namespace Go.Proofs.YtkncejcpeejkkaaGreatDoor
open Go.RowKit Go.Sort

/-- It may go, where all is ok and both are beside each other. -/
def mayI (o : List P2) (hs : List (List P2)) (r : Int) (p q : P2) : Bool := fitI o hs r p && fitI o hs r q && (plE o hs).all (clB r 1 p q)
/-- It may go, where the tool is one on a plate. -/
def mayT (o : List P2) (hs : List (List P2)) (r : Int) (p q : P2) : Bool := ptB p.1 p.2 && ptB q.1 q.2 && decide (dt p.1 p.2 q.1 q.2 q.1 q.2 = 1) && mayI o hs r p q
/-- It may go. -/
def mayV (o : List P2) (hs : List (List P2)) (r : Int) (p q : P2) : Bool := rV r && plV o hs && ptB p.1 p.2 && ptB q.1 q.2 && decide (dt p.1 p.2 q.1 q.2 q.1 q.2 = 1) && mayI o hs r p q
theorem mayV_of {o : List P2} {hs : List (List P2)} {r : Int} {p q : P2} (hr : rV r = true) (hv : plV o hs = true) : mayV o hs r p q = mayT o hs r p q := by
  unfold mayV mayT; rw [hr, hv]; simp
set_option maxRecDepth 100000 in
set_option maxHeartbeats 4000000 in
theorem may_any (a : Option Addr) (la ca : Nat) (b : Nat) (xs : List RingT) (o : List P2) (hs : List (List P2)) (n : Int) (p q : P2) (ad : Addr) (w : World) (h0 : Sent ad w) (hR : RingL w.heap.size w (some ⟨b, 0, none⟩) (⟨a, la, ca, o⟩ :: xs)) (hx : xs.map RingT.pts = hs) (hv : plV o hs = true) (hr : rV n = true) :
    Calls Tryz.prog 30 #[.agg #[.pointer (some ⟨b, 0, none⟩), .int .i64 n, .int .i64 1], .agg #[.int .i64 p.1, .int .i64 p.2], .agg #[.int .i64 q.1, .int .i64 q.2]] w fun e W' => e = .returned (.bool (mayT o hs n p q)) ∧ Below w.heap.size w W' := by
  obtain ⟨W, hW, K, F, T, U⟩ := boxes3 w (.cells #[.pointer (some ⟨b, 0, none⟩), .int .i64 n, .int .i64 1] 63) (.cells #[.int .i64 p.1, .int .i64 p.2] 43) (.cells #[.int .i64 q.1, .int .i64 q.2] 43)
  have zB := K.size
  replace hR := hR.below K (Nat.le_refl _)
  go_enter Tryz.func30, Tryz.ntmps30
  go_upto_region 1 with fail
  rw [← hW]
  clear hW
  have n24 := plE_len o hs
  cases hp : ptB p.1 p.2
  · have e1 : Hid (mayT o hs n p q = false) := by change _ = _; unfold mayT; rw [hp]; rfl
    obtain ⟨t0, t1⟩ := blk_2 T
    obtain ⟨u0, u1⟩ := blk_2 U
    obtain ⟨f0, f1, f2⟩ := blk_3 F
    go_wp2_with fail
    refine (pt_raw p _).mono ?_
    rw [hp]
    rintro e v2 ⟨rfl, J⟩
    have zz2 := J.size
    replace T := keep J T
    replace U := keep J U
    replace F := keep J F
    replace K := bw_trans K J
    replace hR := hR.below J (by omega)
    clear t0 t1 u0 u1 f0 f1 f2 J
    go_wp2_with fail
    go_ret
    exact ⟨by rw [e1.out]; rfl, K⟩
  obtain ⟨t0, t1⟩ := blk_2 T
  obtain ⟨u0, u1⟩ := blk_2 U
  obtain ⟨f0, f1, f2⟩ := blk_3 F
  go_wp2_with fail
  refine (pt_raw p _).mono ?_
  rw [hp]
  rintro e v3 ⟨rfl, J⟩
  have zz3 := J.size
  replace T := keep J T
  replace U := keep J U
  replace F := keep J F
  replace K := bw_trans K J
  replace hR := hR.below J (by omega)
  clear t0 t1 u0 u1 f0 f1 f2 J
  cases hq : ptB q.1 q.2
  · have e1 : Hid (mayT o hs n p q = false) := by change _ = _; unfold mayT; rw [hp, hq]; rfl
    obtain ⟨t0, t1⟩ := blk_2 T
    obtain ⟨u0, u1⟩ := blk_2 U
    obtain ⟨f0, f1, f2⟩ := blk_3 F
    go_wp2_with fail
    refine (pt_raw q _).mono ?_
    rw [hq]
    rintro e v4 ⟨rfl, J⟩
    have zz4 := J.size
    replace T := keep J T
    replace U := keep J U
    replace F := keep J F
    replace K := bw_trans K J
    replace hR := hR.below J (by omega)
    clear t0 t1 u0 u1 f0 f1 f2 J
    go_wp2_with fail
    go_ret
    exact ⟨by rw [e1.out]; rfl, K⟩
  obtain ⟨t0, t1⟩ := blk_2 T
  obtain ⟨u0, u1⟩ := blk_2 U
  obtain ⟨f0, f1, f2⟩ := blk_3 F
  go_wp2_with fail
  refine (pt_raw q _).mono ?_
  rw [hq]
  rintro e v5 ⟨rfl, J⟩
  have zz5 := J.size
  replace T := keep J T
  replace U := keep J U
  replace F := keep J F
  replace K := bw_trans K J
  replace hR := hR.below J (by omega)
  clear t0 t1 u0 u1 f0 f1 f2 J
  by_cases hd : dt p.1 p.2 q.1 q.2 q.1 q.2 = 1
  case neg =>
    have e1 : Hid (mayT o hs n p q = false) := by change _ = _; unfold mayT; rw [hp, hq, decide_eq_false hd]; rfl
    have hd' : (dt p.1 p.2 q.1 q.2 q.1 q.2 == 1) = false := by simpa using hd
    have hsq := fun V => square_ok p.1 p.2 q.1 q.2 V hp hq
    generalize dt p.1 p.2 q.1 q.2 q.1 q.2 = sq at *
    clear hd
    obtain ⟨t0, t1⟩ := blk_2 T
    obtain ⟨u0, u1⟩ := blk_2 U
    obtain ⟨f0, f1, f2⟩ := blk_3 F
    go_wp2_with fail
    refine (hsq _).mono ?_
    rintro e v6 ⟨rfl, J⟩
    have zz6 := J.size
    replace T := keep J T
    replace U := keep J U
    replace F := keep J F
    replace K := bw_trans K J
    replace hR := hR.below J (by omega)
    clear t0 t1 u0 u1 f0 f1 f2 J
    go_wp2_with fail
    go_ret
    exact ⟨by rw [e1.out]; rfl, K⟩
  have e0 : Hid (mayT o hs n p q = mayI o hs n p q) := by change _ = _; unfold mayT; rw [hp, hq, decide_eq_true hd]; rfl
  have hsq := fun V => square_ok p.1 p.2 q.1 q.2 V hp hq
  rw [hd] at hsq
  clear hd
  obtain ⟨t0, t1⟩ := blk_2 T
  obtain ⟨u0, u1⟩ := blk_2 U
  obtain ⟨f0, f1, f2⟩ := blk_3 F
  go_wp2_with fail
  refine (hsq _).mono ?_
  rintro e v7 ⟨rfl, J⟩
  have zz7 := J.size
  replace T := keep J T
  replace U := keep J U
  replace F := keep J F
  replace K := bw_trans K J
  replace hR := hR.below J (by omega)
  clear t0 t1 u0 u1 f0 f1 f2 J
  cases hfp : fitI o hs n p
  · have e1 : Hid (mayT o hs n p q = false) := by change _ = _; rw [e0.out]; unfold mayI; rw [hfp]; rfl
    obtain ⟨t0, t1⟩ := blk_2 T
    obtain ⟨u0, u1⟩ := blk_2 U
    obtain ⟨f0, f1, f2⟩ := blk_3 F
    go_wp2_with fail
    refine (fits_any b ⟨a, la, ca, o⟩ xs hs n p ad _ (h0.below K) (hR.grow (by omega)) hx hv hr hp).mono ?_
    rw [hfp]
    rintro e v8 ⟨rfl, J⟩
    have zz8 := J.size
    replace T := keep J T
    replace U := keep J U
    replace F := keep J F
    replace K := bw_trans K J
    replace hR := hR.below J (by omega)
    clear t0 t1 u0 u1 f0 f1 f2 J
    go_wp2_with fail
    go_ret
    exact ⟨by rw [e1.out]; rfl, K⟩
  obtain ⟨t0, t1⟩ := blk_2 T
  obtain ⟨u0, u1⟩ := blk_2 U
  obtain ⟨f0, f1, f2⟩ := blk_3 F
  go_wp2_with fail
  refine (fits_any b ⟨a, la, ca, o⟩ xs hs n p ad _ (h0.below K) (hR.grow (by omega)) hx hv hr hp).mono ?_
  rw [hfp]
  rintro e v9 ⟨rfl, J⟩
  have zz9 := J.size
  replace T := keep J T
  replace U := keep J U
  replace F := keep J F
  replace K := bw_trans K J
  replace hR := hR.below J (by omega)
  clear t0 t1 u0 u1 f0 f1 f2 J
  cases hfq : fitI o hs n q
  · have e1 : Hid (mayT o hs n p q = false) := by change _ = _; rw [e0.out]; unfold mayI; rw [hfp, hfq]; rfl
    obtain ⟨t0, t1⟩ := blk_2 T
    obtain ⟨u0, u1⟩ := blk_2 U
    obtain ⟨f0, f1, f2⟩ := blk_3 F
    go_wp2_with fail
    refine (fits_any b ⟨a, la, ca, o⟩ xs hs n q ad _ (h0.below K) (hR.grow (by omega)) hx hv hr hq).mono ?_
    rw [hfq]
    rintro e v10 ⟨rfl, J⟩
    have zz10 := J.size
    replace T := keep J T
    replace U := keep J U
    replace F := keep J F
    replace K := bw_trans K J
    replace hR := hR.below J (by omega)
    clear t0 t1 u0 u1 f0 f1 f2 J
    go_wp2_with fail
    go_ret
    exact ⟨by rw [e1.out]; rfl, K⟩
  obtain ⟨t0, t1⟩ := blk_2 T
  obtain ⟨u0, u1⟩ := blk_2 U
  obtain ⟨f0, f1, f2⟩ := blk_3 F
  go_wp2_with fail
  refine (fits_any b ⟨a, la, ca, o⟩ xs hs n q ad _ (h0.below K) (hR.grow (by omega)) hx hv hr hq).mono ?_
  rw [hfq]
  rintro e v11 ⟨rfl, J⟩
  have zz11 := J.size
  replace T := keep J T
  replace U := keep J U
  replace F := keep J F
  replace K := bw_trans K J
  replace hR := hR.below J (by omega)
  clear t0 t1 u0 u1 f0 f1 f2 J
  have hE : edgR (⟨a, la, ca, o⟩ :: xs) = plE o hs := by rw [edgR_eq _ _ hs hx, plE_eq hv]
  have hC := fun V (hV : Sent ad V) hRN => clears_any b (⟨a, la, ca, o⟩ :: xs) n 1 p q ad V hV hRN
  rw [hE] at hC
  have e1 : Hid (mayT o hs n p q = (plE o hs).all (clB n 1 p q)) := by change _ = _; rw [e0.out]; unfold mayI; rw [hfp, hfq]; rfl
  generalize (plE o hs).all (clB n 1 p q) = bl at *
  obtain ⟨t0, t1⟩ := blk_2 T
  obtain ⟨u0, u1⟩ := blk_2 U
  obtain ⟨f0, f1, f2⟩ := blk_3 F
  go_wp2_with fail
  refine (hC _ (h0.below K) (RingL.ringN (Nat.le_refl _) (hR.grow (by omega)))).mono ?_
  rintro e v12 ⟨rfl, J⟩
  have zz12 := J.size
  replace T := keep J T
  replace U := keep J U
  replace F := keep J F
  replace K := bw_trans K J
  replace hR := hR.below J (by omega)
  clear t0 t1 u0 u1 f0 f1 f2 J
  go_wp2_with fail
  go_ret
  exact ⟨by rw [e1.out]; rfl, K⟩
set_option maxRecDepth 100000 in
set_option maxHeartbeats 4000000 in
theorem toolMay_any (a ah : Option Addr) (la ca nh ch : Nat) (o : List P2) (hs : List (List P2)) (r : Int) (p q : P2) (ad : Addr) (w : World) (h0 : Sent ad w) (h : Plt w a la ah nh o hs) :
    Calls Tryz.prog 15 #[.agg #[.slice a la ca, .slice ah nh ch], .int .i64 r, .agg #[.int .i64 p.1, .int .i64 p.2], .agg #[.int .i64 q.1, .int .i64 q.2]] w fun e W' => e = .returned (.bool (mayV o hs r p q)) ∧ Below w.heap.size w W' := by
  obtain ⟨W, hW, BW, TP, T, U⟩ := boxes3 w (.cells #[.slice a la ca, .slice ah nh ch] 32) (.cells #[.int .i64 p.1, .int .i64 p.2] 43) (.cells #[.int .i64 q.1, .int .i64 q.2] 43)
  have hT := toolOn_any a ah la ca nh ch o hs r ad W (h0.below BW) (h.below BW)
  have zB := BW.size
  obtain ⟨t0, t1⟩ := blk_2 TP
  cases hrv : rV r && plV o hs
  · have e1 : Hid (mayV o hs r p q = false) := by change _ = _; unfold mayV; rw [hrv]; rfl
    rw [hrv] at hT
    go_enter Tryz.func15, Tryz.ntmps15
    go_upto_region 1 with fail
    rw [← hW]
    clear hW
    go_wp2_with fail
    refine hT.mono ?_
    rintro e w1 ⟨⟨qq, n, d, rfl, -⟩, J⟩
    obtain ⟨W1, hW1, B1, F⟩ : ∃ W1, W1 = w1.alloc (.cells #[.pointer qq, .int .i64 n, .int .i64 d] 63) ∧ Below w1.heap.size w1 W1 ∧ W1.heap[w1.heap.size]? = some (.cells #[.pointer qq, .int .i64 n, .int .i64 d] 63 (0, 0)) := ⟨_, rfl, (by repeat (first | exact bw_refl _ | assumption | apply bw_drewN | apply bw_drew | apply bw_alloc | refine bw_set ?_ (by simp) _)), heap_new _ _⟩
    go_upto_region 2 with fail
    rw [← hW1]
    clear hW1
    go_wp2_with fail
    go_ret
    exact ⟨by rw [e1.out]; rfl, bw_trans (bw_trans BW J) B1⟩
  rw [hrv] at hT
  rw [Bool.and_eq_true] at hrv
  obtain ⟨hr, hv⟩ := hrv
  rw [mayV_of hr hv]
  go_enter Tryz.func15, Tryz.ntmps15
  go_upto_region 1 with fail
  rw [← hW]
  clear hW
  go_wp2_with fail
  refine hT.mono ?_
  rintro e w1 ⟨⟨qq, n, d, rfl, hR0⟩, J⟩
  obtain ⟨rfl, rfl, b, xs, rfl, hR, hx⟩ := hR0 rfl
  clear hR0
  obtain ⟨W1, hW1, B1, F⟩ : ∃ W1, W1 = w1.alloc (.cells #[.pointer (some ⟨b, 0, none⟩), .int .i64 n, .int .i64 1] 63) ∧ Below w1.heap.size w1 W1 ∧ W1.heap[w1.heap.size]? = some (.cells #[.pointer (some ⟨b, 0, none⟩), .int .i64 n, .int .i64 1] 63 (0, 0)) := ⟨_, rfl, (by repeat (first | exact bw_refl _ | assumption | apply bw_drewN | apply bw_drew | apply bw_alloc | refine bw_set ?_ (by simp) _)), heap_new _ _⟩
  have K := bw_trans J B1
  have zJ := J.size
  have zB1 := B1.size
  replace T := keep K T
  replace U := keep K U
  replace hR := hR.below B1 (by omega)
  replace K := bw_trans BW K
  clear t0 t1 J B1 hT
  go_upto_region 2 with fail
  rw [← hW1]
  clear hW1
  have hM := may_any a la ca b xs o hs n p q ad W1 (h0.below K) (hR.grow (by omega)) hx hv hr
  obtain ⟨bm, hbm⟩ : ∃ bm, mayT o hs n p q = bm := ⟨_, rfl⟩
  rw [hbm] at hM
  have HM : Hid (mayT o hs n p q = bm) := hbm
  clear hbm
  obtain ⟨t0, t1⟩ := blk_2 T
  obtain ⟨u0, u1⟩ := blk_2 U
  obtain ⟨f0, f1, f2⟩ := blk_3 F
  go_wp2_with fail
  refine hM.mono ?_
  rintro e w2 ⟨rfl, J⟩
  go_wp2_with fail
  go_ret
  exact ⟨by rw [HM.out]; rfl, bw_trans K J⟩
end Go.Proofs.YtkncejcpeejkkaaGreatDoor
namespace Go.Proofs.YtkncejcpeejkkaaGreatDoor
open Go.RowKit Go.Sort

/-- An edge is in the way: as the specification says. -/
def hitI (p q : P2) (r : Int) (s : P2 × P2) : Bool := meetP p q s.1 s.2 || nearI (p, q) r s.1 || nearI (p, q) r s.2
theorem beside_sg {p q : P2} (hp : ptB p.1 p.2 = true) (hq : ptB q.1 q.2 = true) (hd : dt p.1 p.2 q.1 q.2 q.1 q.2 = 1) : sgP p q = true := by
  unfold sgP
  rw [sgB_iff]
  rw [ptB_iff] at hp hq
  refine ⟨hp, hq, fun ⟨h1, h2⟩ => ?_⟩
  unfold dt at hd
  rw [h1, h2] at hd
  simp at hd
theorem sp_least {r : Int} {m a b c d : Int × Int} (hr : rV r = true) (ha : OkF a) (hb : OkF b) (hc : OkF c) (hd : OkF d) (h : Least m a b c d) : spB r m = (spB r a && spB r b && spB r c && spB r d) := by
  have hm := h.ok ha hb hc hd
  obtain ⟨hmem, l1, l2, l3, l4⟩ := h
  rw [Bool.eq_iff_iff]
  simp only [Bool.and_eq_true]
  constructor
  · intro h
    exact ⟨⟨⟨sp_le hr hm ha l1 h, sp_le hr hm hb l2 h⟩, sp_le hr hm hc l3 h⟩, sp_le hr hm hd l4 h⟩
  · rintro ⟨⟨⟨h1, h2⟩, h3⟩, h4⟩
    rcases hmem with e | e | e | e <;> rw [e] <;> assumption
/-- What the program asks of an edge is what the specification asks, where the tool fits at both ends. -/
theorem cl_hit {r : Int} {p q : P2} {s : P2 × P2} (hr : rV r = true) (hw : sgP p q = true) (hs : sgP s.1 s.2 = true) (h1 : spB r (farS p s) = true) (h2 : spB r (farS q s) = true) : clB r 1 p q s = !hitI p q r s := by
  have hp := (sgP_pt hw).1
  have hq := (sgP_pt hw).2
  have ha := (sgP_pt hs).1
  have hb := (sgP_pt hs).2
  have e0 : apartV p.1 p.2 q.1 q.2 s.1.1 s.1.2 s.2.1 s.2.2 = apart p.1 p.2 q.1 q.2 s.1.1 s.1.2 s.2.1 s.2.2 := by
    unfold apartV; rw [show sgB p.1 p.2 q.1 q.2 = true from hw, show sgB s.1.1 s.1.2 s.2.1 s.2.2 = true from hs]; rfl
  have hok : OkF (apart p.1 p.2 q.1 q.2 s.1.1 s.1.2 s.2.1 s.2.2) := apart_ok hw hs
  unfold clB
  rw [e0, sp_cmp hr hok]
  unfold hitI
  cases hm : meetP p q s.1 s.2
  · have L := apart_least hw hs hm
    obtain ⟨o1, o2, o3, o4⟩ := four_ok hw hs
    rw [sp_least hr o1 o2 o3 o4 L]
    have n1 := near_far (s := (p, q)) (r := r) hw ha
    have n2 := near_far (s := (p, q)) (r := r) hw hb
    rw [farS_of (s := (p, q)) hw ha] at n1
    rw [farS_of (s := (p, q)) hw hb] at n2
    rw [farS_of hs hp] at h1
    rw [farS_of hs hq] at h2
    rw [n1, n2]
    dsimp only at *
    rw [h1, h2]
    cases spB r (far p.1 p.2 q.1 q.2 s.1.1 s.1.2) <;> cases spB r (far p.1 p.2 q.1 q.2 s.2.1 s.2.2) <;> rfl
  · rw [apart_yes hm]
    rw [rV_iff] at hr
    unfold spB
    rw [decide_eq_false (by dsimp only; omega)]
    rfl
theorem fit_far {o : List P2} {hs : List (List P2)} {r : Int} {p : P2} (hr : rV r = true) (hv : plV o hs = true) (hp : ptB p.1 p.2 = true) (h : fitI o hs r p = true) {s : P2 × P2} (hs' : s ∈ plE o hs) : spB r (farS p s) = true := by
  unfold fitI at h
  rw [Bool.and_eq_true] at h
  exact sp_le hr (plFI_ok hv hp) (farS_ok (plE_ok hv hs') hp) ((plFI_least hv hp).le _ (List.mem_map.2 ⟨s, hs', rfl⟩)) h.2
theorem mayI_hit {o : List P2} {hs : List (List P2)} {r : Int} {p q : P2} (hr : rV r = true) (hv : plV o hs = true) (hp : ptB p.1 p.2 = true) (hq : ptB q.1 q.2 = true) (hd : dt p.1 p.2 q.1 q.2 q.1 q.2 = 1) : mayI o hs r p q = (fitI o hs r p && fitI o hs r q && (plE o hs).all fun s => !hitI p q r s) := by
  unfold mayI
  cases h1 : fitI o hs r p
  · rfl
  cases h2 : fitI o hs r q
  · rfl
  have hw := beside_sg hp hq hd
  simp only [Bool.true_and]
  rw [Bool.eq_iff_iff, List.all_eq_true, List.all_eq_true]
  refine ⟨fun h s hs' => ?_, fun h s hs' => ?_⟩
  · rw [← cl_hit hr hw (plE_ok hv hs') (fit_far hr hv hp h1 hs') (fit_far hr hv hq h2 hs')]; exact h s hs'
  · rw [cl_hit hr hw (plE_ok hv hs') (fit_far hr hv hp h1 hs') (fit_far hr hv hq h2 hs')]; exact h s hs'
end Go.Proofs.YtkncejcpeejkkaaGreatDoor
namespace Go.Proofs.YtkncejcpeejkkaaGreatDoor
open Go.RowKit Go.Sort

set_option maxRecDepth 100000 in
set_option maxHeartbeats 8000000 in
theorem sMayI_ok (a ah : Option Addr) (la ca nh ch : Nat) (o : List P2) (hs : List (List P2)) (g len cap : Nat) (r : Int) (p q : P2) (w : World) (h : Plt w a la ah nh o hs) (hv : plV o hs = true) (hr : rV r = true) (hp : ptB p.1 p.2 = true) (hq : ptB q.1 q.2 = true) (hd : dt p.1 p.2 q.1 q.2 q.1 q.2 = 1) (hS : SRow w g (plE o hs)) (zg : g < w.heap.size) (hl : (plE o hs).length = len) :
    Calls Tryz.prog 24 #[.agg #[.slice a la ca, .slice ah nh ch], .slice (some ⟨g, 0, none⟩) len cap, .int .i64 r, .agg #[.int .i64 p.1, .int .i64 p.2], .agg #[.int .i64 q.1, .int .i64 q.2]] w fun e W' => e = .returned (.bool (mayI o hs r p q)) ∧ Below w.heap.size w W' := by
  obtain ⟨W, hW, BW, TP, T, U⟩ := boxes3 w (.cells #[.slice a la ca, .slice ah nh ch] 32) (.cells #[.int .i64 p.1, .int .i64 p.2] 43) (.cells #[.int .i64 q.1, .int .i64 q.2] 43)
  have hr' := (rV_iff r).1 hr
  have hw := beside_sg hp hq hd
  have h24 := plE_len o hs
  have hok : ∀ s ∈ plE o hs, sgP s.1 s.2 = true := fun s hs' => plE_ok hv hs'
  have HFI : Hid (∀ p' : P2, ptB p'.1 p'.2 = true → ∀ V, Below w.heap.size w V → Calls Tryz.prog 22 #[.agg #[.slice a la ca, .slice ah nh ch], .slice (some ⟨g, 0, none⟩) len cap, .int .i64 r, .agg #[.int .i64 p'.1, .int .i64 p'.2]] V fun e W' => e = .returned (.bool (fitI o hs r p')) ∧ Below V.heap.size V W') := fun p' hp' V hV => by
    have := sFits_ok a ah la ca nh ch o hs g len cap (plE o hs) r p' V (h.below hV) hv hr hp' (hS.below hV zg) (by have := hV.size; omega) hl (by omega) hok
    rw [fitI_all hr hv hp']; exact this
  have HM : Hid (mayI o hs r p q = (fitI o hs r p && fitI o hs r q && (plE o hs).all fun s => !hitI p q r s)) := mayI_hit hr hv hp hq hd
  have HA : Hid (((plE o hs).all fun s => !hitI p q r s) = true ↔ ∀ k, k < len → hitI p q r (sAt (plE o hs) k) = false) := by
    change _ ↔ _
    rw [List.all_eq_true]
    constructor
    · intro h k hk; simpa using h _ (sAt_mem (show k < (plE o hs).length by omega))
    · intro h s hs'
      obtain ⟨k, hk, rfl⟩ := List.getElem_of_mem hs'
      have this : hitI p q r (sAt (plE o hs) k) = false := h k (by omega)
      rw [show sAt (plE o hs) k = (plE o hs)[k] by unfold sAt; rw [List.getElem?_eq_getElem hk, Option.getD_some]] at this
      rw [this]; rfl
  have HC : Hid (∀ k, k < len → ∀ V, Calls Tryz.prog 42 #[.agg #[.int .i64 p.1, .int .i64 p.2, .int .i64 q.1, .int .i64 q.2], .agg #[.int .i64 (sAt (plE o hs) k).1.1, .int .i64 (sAt (plE o hs) k).1.2, .int .i64 (sAt (plE o hs) k).2.1, .int .i64 (sAt (plE o hs) k).2.2]] V (fun e w' => e = .returned (.bool (meetP p q (sAt (plE o hs) k).1 (sAt (plE o hs) k).2)) ∧ Below V.heap.size V w')
      ∧ Calls Tryz.prog 39 #[.agg #[.int .i64 p.1, .int .i64 p.2, .int .i64 q.1, .int .i64 q.2], .int .i64 r, .agg #[.int .i64 (sAt (plE o hs) k).1.1, .int .i64 (sAt (plE o hs) k).1.2]] V (fun e w' => e = .returned (.bool (nearI (p, q) r (sAt (plE o hs) k).1)) ∧ Below V.heap.size V w')
      ∧ Calls Tryz.prog 39 #[.agg #[.int .i64 p.1, .int .i64 p.2, .int .i64 q.1, .int .i64 q.2], .int .i64 r, .agg #[.int .i64 (sAt (plE o hs) k).2.1, .int .i64 (sAt (plE o hs) k).2.2]] V (fun e w' => e = .returned (.bool (nearI (p, q) r (sAt (plE o hs) k).2)) ∧ Below V.heap.size V w')) := fun k hk V => by
    have hk' := hok _ (sAt_mem (show k < (plE o hs).length by omega))
    exact ⟨sMeet_raw p q _ _ hw hk' V, sNear_any _ _ _ _ _ _ r V hr' hw (sgP_pt hk').1, sNear_any _ _ _ _ _ _ r V hr' hw (sgP_pt hk').2⟩
  have HS : Hid (∀ k, k < len → w.cell? ⟨g, k * 4, none⟩ = some (.int .i64 (sAt (plE o hs) k).1.1) ∧ w.cell? ⟨g, k * 4 + 1, none⟩ = some (.int .i64 (sAt (plE o hs) k).1.2) ∧ w.cell? ⟨g, k * 4 + 2, none⟩ = some (.int .i64 (sAt (plE o hs) k).2.1) ∧ w.cell? ⟨g, k * 4 + 3, none⟩ = some (.int .i64 (sAt (plE o hs) k).2.2)) := fun k hk => hS k (by omega)
  have HFP := fun V hV => HFI.out p hp V hV
  have HFQ := fun V hV => HFI.out q hq V hV
  have hl2 : len ≤ 24 := by omega
  clear HFI hok hl hS h hv hr hp hq hd hw h24
  go_enter Tryz.func24, Tryz.ntmps24
  go_upto_region 1 with fail
  rw [← hW]
  clear hW
  cases hfp : fitI o hs r p
  · have e1 : Hid (mayI o hs r p q = false) := by change _ = _; rw [HM.out, hfp]; rfl
    have hc := HFP W BW
    rw [hfp] at hc
    obtain ⟨t0, t1⟩ := blk_2 TP
    obtain ⟨u0, u1⟩ := blk_2 T
    go_wp2_with fail
    refine hc.mono ?_
    rintro e v1 ⟨rfl, J⟩
    go_wp2_with fail
    go_ret
    exact ⟨by rw [e1.out]; rfl, bw_trans BW J⟩
  have hc := HFP W BW
  rw [hfp] at hc
  obtain ⟨t0, t1⟩ := blk_2 TP
  obtain ⟨u0, u1⟩ := blk_2 T
  go_wp2_with fail
  refine hc.mono ?_
  rintro e v1 ⟨rfl, J⟩
  have K := bw_trans BW J
  replace TP := keep J TP
  replace T := keep J T
  replace U := keep J U
  clear t0 t1 u0 u1 J hc BW
  have hc := HFQ v1 K
  cases hfq : fitI o hs r q
  · have e1 : Hid (mayI o hs r p q = false) := by change _ = _; rw [HM.out, hfp, hfq]; rfl
    rw [hfq] at hc
    obtain ⟨t0, t1⟩ := blk_2 TP
    obtain ⟨u0, u1⟩ := blk_2 U
    go_wp2_with fail
    refine hc.mono ?_
    rintro e v2 ⟨rfl, J⟩
    go_wp2_with fail
    go_ret
    exact ⟨by rw [e1.out]; rfl, bw_trans K J⟩
  rw [hfq] at hc
  obtain ⟨t0, t1⟩ := blk_2 TP
  obtain ⟨u0, u1⟩ := blk_2 U
  go_wp2_with fail
  refine hc.mono ?_
  rintro e v2 ⟨rfl, J⟩
  replace K := bw_trans K J
  replace T := keep J T
  replace U := keep J U
  clear t0 t1 u0 u1 J hc
  obtain ⟨t0, t1⟩ := blk_2 T
  obtain ⟨u0, u1⟩ := blk_2 U
  have e0 : Hid (mayI o hs r p q = (plE o hs).all fun s => !hitI p q r s) := by change _ = _; rw [HM.out, hfp, hfq]; rfl
  obtain ⟨V, hV, BV, Y⟩ : ∃ V, V = v2.alloc (.cells #[.int .i64 p.1, .int .i64 p.2, .int .i64 q.1, .int .i64 q.2] 75) ∧ Below v2.heap.size v2 V ∧ V.heap[v2.heap.size]? = some (.cells #[.int .i64 p.1, .int .i64 p.2, .int .i64 q.1, .int .i64 q.2] 75 (0, 0)) := ⟨_, rfl, (by repeat (first | exact bw_refl _ | assumption | apply bw_drewN | apply bw_drew | apply bw_alloc | refine bw_set ?_ (by simp) _)), heap_new _ _⟩
  replace K := bw_trans K BV
  clear HM HFP HFQ hfp hfq BV T U TP
  generalize ((plE o hs).all fun s => !hitI p q r s) = al at *
  generalize plE o hs = ss at *
  go_upto_region 4 with fail
  rw [← hV]
  clear hV t0 t1 u0 u1
  go_wp2_with fail
  go_loopw [12] (fun i wr => ∃ k : Nat, k ≤ len ∧ i = .int .i64 k ∧ (∀ j, j < k → hitI p q r (sAt ss j) = false) ∧ Below V.heap.size V wr) (fun i _ => len - (intOf i).toNat)
  case atStart => exact ⟨0, Nat.zero_le _, rfl, fun j hj => absurd hj (Nat.not_lt_zero _), bw_refl _⟩
  case round =>
    obtain ⟨k, hk, rfl, hb, hnx⟩ := hrel
    have HB : Hid (∀ j, j < k → hitI p q r (sAt ss j) = false) := hb
    clear hb
    have KW := bw_trans K hnx
    by_cases hlt : k < len
    case pos =>
      obtain ⟨s0, s1, s2, s3⟩ := HS.out k hlt
      obtain ⟨d0, d1, d2, d3⟩ := regrow4 ⟨(KW.cell (p := ⟨g, k * 4, none⟩) zg).trans s0, (KW.cell (p := ⟨g, k * 4 + 1, none⟩) zg).trans s1, (KW.cell (p := ⟨g, k * 4 + 2, none⟩) zg).trans s2, (KW.cell (p := ⟨g, k * 4 + 3, none⟩) zg).trans s3⟩
      obtain ⟨y0, y1, y2, y3⟩ := reg_4 (keep hnx Y)
      have i0 : (0 : Int) ≤ (k : Int) := Int.natCast_nonneg _
      have i1 : (k : Int) < (len : Int) := by omega
      have i2 : (k : Int) ≤ 24 := by omega
      have hX := HC.out k hlt
      have HX1 : Hid (∀ V, _) := fun V => (hX V).1
      have HX2 : Hid (∀ V, _) := fun V => (hX V).2.1
      have HX3 : Hid (∀ V, _) := fun V => (hX V).2.2
      have HH : Hid (hitI p q r (sAt ss k) = (meetP p q (sAt ss k).1 (sAt ss k).2 || nearI (p, q) r (sAt ss k).1 || nearI (p, q) r (sAt ss k).2)) := rfl
      clear hX s0 s1 s2 s3
      generalize meetP p q (sAt ss k).1 (sAt ss k).2 = b1 at *
      generalize nearI (p, q) r (sAt ss k).1 = b2 at *
      generalize nearI (p, q) r (sAt ss k).2 = b3 at *
      cases b1
      · cases b2
        · cases b3
          · go_wp2_with fail
            refine wp_region_quiet_below (by kernel_rfl) (by kernel_rfl) ?_
            repeat (first | go_big_quiet_step (first | (go_at_call 42; with_reducible exact Calls.regrown_of (HX1.out _)) | (go_at_call 39; with_reducible exact Calls.regrown_of (HX2.out _)) | (go_at_call 39; with_reducible exact Calls.regrown_of (HX3.out _))))
            refine wpQuiet_nil ?_
            intro _ hw'
            obtain ⟨⟨dq, osq⟩, hw''⟩ := hw'
            subst hw''
            have J := below_regrown wr dq osq
            generalize grow (redrawn wr dq) osq = v5 at J ⊢
            go_wp2_with fail
            go_roundw
            case rel =>
              refine ⟨k + 1, by omega, by simp, fun j hj => ?_, bw_trans hnx J⟩
              rcases Nat.lt_or_ge j k with hjk | hjk
              · exact HB.out j hjk
              · obtain rfl : j = k := by omega
                exact HH.out
            case measure => simp [intOf]; omega
          · have e1 : Hid (mayI o hs r p q = false) := by
              change _ = _
              rw [e0.out, Bool.eq_false_iff]
              intro hc
              have h9 := HA.out.1 hc k hlt
              rw [HH.out] at h9; simp at h9
            go_wp2_with fail
            refine wp_region_quiet_below (by kernel_rfl) (by kernel_rfl) ?_
            repeat (first | go_big_quiet_step (first | (go_at_call 42; with_reducible exact Calls.regrown_of (HX1.out _)) | (go_at_call 39; with_reducible exact Calls.regrown_of (HX2.out _)) | (go_at_call 39; with_reducible exact Calls.regrown_of (HX3.out _))))
            refine wpQuiet_nil ?_
            intro _ hw'
            obtain ⟨⟨dq, osq⟩, hw''⟩ := hw'
            subst hw''
            have J := below_regrown wr dq osq
            generalize grow (redrawn wr dq) osq = v5 at J ⊢
            go_wp2_with fail
            go_ret
            exact ⟨by rw [e1.out]; rfl, bw_trans KW J⟩
        · have e1 : Hid (mayI o hs r p q = false) := by
            change _ = _
            rw [e0.out, Bool.eq_false_iff]
            intro hc
            have h9 := HA.out.1 hc k hlt
            rw [HH.out] at h9; simp at h9
          go_wp2_with fail
          refine wp_region_quiet_below (by kernel_rfl) (by kernel_rfl) ?_
          repeat (first | go_big_quiet_step (first | (go_at_call 42; with_reducible exact Calls.regrown_of (HX1.out _)) | (go_at_call 39; with_reducible exact Calls.regrown_of (HX2.out _))))
          refine wpQuiet_nil ?_
          intro _ hw'
          obtain ⟨⟨dq, osq⟩, hw''⟩ := hw'
          subst hw''
          have J := below_regrown wr dq osq
          generalize grow (redrawn wr dq) osq = v5 at J ⊢
          go_wp2_with fail
          go_ret
          exact ⟨by rw [e1.out]; rfl, bw_trans KW J⟩
      · have e1 : Hid (mayI o hs r p q = false) := by
          change _ = _
          rw [e0.out, Bool.eq_false_iff]
          intro hc
          have h9 := HA.out.1 hc k hlt
          rw [HH.out] at h9; simp at h9
        go_wp2_with fail
        refine wp_region_quiet_below (by kernel_rfl) (by kernel_rfl) ?_
        repeat (first | go_big_quiet_step (first | (go_at_call 42; with_reducible exact Calls.regrown_of (HX1.out _))))
        refine wpQuiet_nil ?_
        intro _ hw'
        obtain ⟨⟨dq, osq⟩, hw''⟩ := hw'
        subst hw''
        have J := below_regrown wr dq osq
        generalize grow (redrawn wr dq) osq = v5 at J ⊢
        go_wp2_with fail
        go_ret
        exact ⟨by rw [e1.out]; rfl, bw_trans KW J⟩
    case neg =>
      obtain rfl : len = k := by omega
      have e1 : Hid (mayI o hs r p q = true) := by change _ = _; rw [e0.out]; exact HA.out.2 HB.out
      clear HA HC HB
      go_wp2_with fail
      go_ret
      exact ⟨by rw [e1.out]; rfl, KW⟩
end Go.Proofs.YtkncejcpeejkkaaGreatDoor
namespace Go.Proofs.YtkncejcpeejkkaaGreatDoor
open Go.RowKit Go.Sort

set_option maxHeartbeats 1000000 in
theorem sBeside_ok (p q : P2) (w : World) (hp : ptB p.1 p.2 = true) (hq : ptB q.1 q.2 = true) :
    Calls Tryz.prog 23 #[.agg #[.int .i64 p.1, .int .i64 p.2], .agg #[.int .i64 q.1, .int .i64 q.2]] w fun e W' => e = .returned (.bool (decide (dt p.1 p.2 q.1 q.2 q.1 q.2 = 1))) ∧ Below w.heap.size w W' := by
  have hc := fun V => sDot_any _ _ _ _ _ _ V hp hq hq
  generalize dt p.1 p.2 q.1 q.2 q.1 q.2 = z at *
  go_enter Tryz.func23, Tryz.ntmps23
  go_wp2_with fail
  refine (hc _).mono ?_
  rintro e v ⟨rfl, J⟩
  go_wp2_with fail
  go_ret
  exact ⟨by congr 1, bw_trans (by repeat (first | exact bw_refl _ | assumption | apply bw_drewN | apply bw_drew | apply bw_alloc | refine bw_set ?_ (by simp) _)) J⟩
set_option maxRecDepth 100000 in
set_option maxHeartbeats 4000000 in
theorem sToolMay_any (a ah : Option Addr) (la ca nh ch : Nat) (o : List P2) (hs : List (List P2)) (r : Int) (p q : P2) (w : World) (h : Plt w a la ah nh o hs) :
    Calls Tryz.prog 55 #[.agg #[.slice a la ca, .slice ah nh ch], .int .i64 r, .agg #[.int .i64 p.1, .int .i64 p.2], .agg #[.int .i64 q.1, .int .i64 q.2]] w fun e W' => e = .returned (.bool (mayV o hs r p q)) ∧ Below w.heap.size w W' := by
  obtain ⟨W, hW, BW, TP, T, U⟩ := boxes3 w (.cells #[.slice a la ca, .slice ah nh ch] 32) (.cells #[.int .i64 p.1, .int .i64 p.2] 43) (.cells #[.int .i64 q.1, .int .i64 q.2] 43)
  have hh := h.below BW
  have zP := blk_lt TP
  have zT := blk_lt T
  have zU := blk_lt U
  have hOk := fun d os => sPlateOk_any a ah la ca nh ch o hs _ (hh.below (below_regrown W d os))
  have hIn := fun V => in_any r 1 9 V
  rw [inR_r] at hIn
  have hPt := fun V => sPt_raw p V
  have hPt2 := fun V => sPt_raw q V
  obtain ⟨t0, t1⟩ := reg_2 TP
  obtain ⟨u0, u1⟩ := reg_2 T
  obtain ⟨x0, x1⟩ := reg_2 U
  have HO : Hid (∀ d os, Calls Tryz.prog 18 #[.agg #[.slice a la ca, .slice ah nh ch]] (grow (redrawn W d) os) fun e W' => e = .returned (.bool (plV o hs)) ∧ Below (grow (redrawn W d) os).heap.size (grow (redrawn W d) os) W') := hOk
  have HI : Hid (∀ V, Calls Tryz.prog 19 #[.int .i64 r, .int .i64 1, .int .i64 9] V fun e W' => e = .returned (.bool (rV r)) ∧ Below V.heap.size V W') := fun V => (hIn V).mono fun _ _ h => ⟨h.1, h.2 ▸ bw_refl _⟩
  have HQ : Hid (∀ V, Calls Tryz.prog 21 #[.agg #[.int .i64 p.1, .int .i64 p.2]] V fun e W' => e = .returned (.bool (ptB p.1 p.2)) ∧ Below V.heap.size V W') := hPt
  have HQ2 : Hid (∀ V, Calls Tryz.prog 21 #[.agg #[.int .i64 q.1, .int .i64 q.2]] V fun e W' => e = .returned (.bool (ptB q.1 q.2)) ∧ Below V.heap.size V W') := hPt2
  clear hOk hIn hPt hPt2
  cases hv : plV o hs
  · have e1 : Hid (mayV o hs r p q = false) := by change _ = _; unfold mayV; rw [hv, Bool.and_false]; try rfl
    try rw [hv] at HO
    go_enter Tryz.func55, Tryz.ntmps55
    go_upto_region 1 with fail
    rw [← hW]
    clear hW
    refine wp_region_quiet_below (by kernel_rfl) (by kernel_rfl) ?_
    repeat (first | go_big_quiet_step (first | (go_at_call 18; with_reducible exact Calls.regrown_of (HO.out _ _))))
    refine wpQuiet_nil ?_
    intro _ hw'
    obtain ⟨⟨dq, osq⟩, hw''⟩ := hw'
    subst hw''
    have J := below_regrown W dq osq
    generalize grow (redrawn W dq) osq = v at J ⊢
    go_wp2_with fail
    go_ret
    exact ⟨by rw [e1.out]; first | rfl | simp, bw_trans BW J⟩
  rw [hv] at HO
  cases hr : rV r
  · have e1 : Hid (mayV o hs r p q = false) := by change _ = _; unfold mayV; rw [hr]; try rfl
    try rw [hr] at HI
    go_enter Tryz.func55, Tryz.ntmps55
    go_upto_region 1 with fail
    rw [← hW]
    clear hW
    refine wp_region_quiet_below (by kernel_rfl) (by kernel_rfl) ?_
    repeat (first | go_big_quiet_step (first | (go_at_call 18; with_reducible exact Calls.regrown_of (HO.out _ _)) | (go_at_call 19; with_reducible exact Calls.regrown_of (HI.out _))))
    refine wpQuiet_nil ?_
    intro _ hw'
    obtain ⟨⟨dq, osq⟩, hw''⟩ := hw'
    subst hw''
    have J := below_regrown W dq osq
    generalize grow (redrawn W dq) osq = v at J ⊢
    go_wp2_with fail
    go_ret
    exact ⟨by rw [e1.out]; first | rfl | simp, bw_trans BW J⟩
  rw [hr] at HI
  cases hp : ptB p.1 p.2
  · have e1 : Hid (mayV o hs r p q = false) := by change _ = _; unfold mayV; rw [hr, hv, hp]; try rfl
    try rw [hp] at HQ
    go_enter Tryz.func55, Tryz.ntmps55
    go_upto_region 1 with fail
    rw [← hW]
    clear hW
    refine wp_region_quiet_below (by kernel_rfl) (by kernel_rfl) ?_
    repeat (first | go_big_quiet_step (first | (go_at_call 18; with_reducible exact Calls.regrown_of (HO.out _ _)) | (go_at_call 19; with_reducible exact Calls.regrown_of (HI.out _)) | (go_at_call 21; with_reducible exact Calls.regrown_of (HQ.out _))))
    refine wpQuiet_nil ?_
    intro _ hw'
    obtain ⟨⟨dq, osq⟩, hw''⟩ := hw'
    subst hw''
    have J := below_regrown W dq osq
    generalize grow (redrawn W dq) osq = v at J ⊢
    go_wp2_with fail
    go_ret
    exact ⟨by rw [e1.out]; first | rfl | simp, bw_trans BW J⟩
  rw [hp] at HQ
  cases hq : ptB q.1 q.2
  · have e1 : Hid (mayV o hs r p q = false) := by change _ = _; unfold mayV; rw [hr, hv, hp, hq]; try rfl
    try rw [hq] at HQ2
    go_enter Tryz.func55, Tryz.ntmps55
    go_upto_region 1 with fail
    rw [← hW]
    clear hW
    refine wp_region_quiet_below (by kernel_rfl) (by kernel_rfl) ?_
    repeat (first | go_big_quiet_step (first | (go_at_call 18; with_reducible exact Calls.regrown_of (HO.out _ _)) | (go_at_call 19; with_reducible exact Calls.regrown_of (HI.out _)) | (go_at_call 21; with_reducible exact Calls.regrown_of (HQ.out _)) | (go_at_call 21; with_reducible exact Calls.regrown_of (HQ2.out _))))
    refine wpQuiet_nil ?_
    intro _ hw'
    obtain ⟨⟨dq, osq⟩, hw''⟩ := hw'
    subst hw''
    have J := below_regrown W dq osq
    generalize grow (redrawn W dq) osq = v at J ⊢
    go_wp2_with fail
    go_ret
    exact ⟨by rw [e1.out]; first | rfl | simp, bw_trans BW J⟩
  rw [hq] at HQ2
  have HB : Hid (∀ V, Calls Tryz.prog 23 #[.agg #[.int .i64 p.1, .int .i64 p.2], .agg #[.int .i64 q.1, .int .i64 q.2]] V fun e W' => e = .returned (.bool (decide (dt p.1 p.2 q.1 q.2 q.1 q.2 = 1))) ∧ Below V.heap.size V W') := fun V => sBeside_ok p q V hp hq
  cases hd : decide (dt p.1 p.2 q.1 q.2 q.1 q.2 = 1)
  · have e1 : Hid (mayV o hs r p q = false) := by change _ = _; unfold mayV; rw [hr, hv, hp, hq, hd]; try rfl
    try rw [hd] at HB
    go_enter Tryz.func55, Tryz.ntmps55
    go_upto_region 1 with fail
    rw [← hW]
    clear hW
    refine wp_region_quiet_below (by kernel_rfl) (by kernel_rfl) ?_
    repeat (first | go_big_quiet_step (first | (go_at_call 18; with_reducible exact Calls.regrown_of (HO.out _ _)) | (go_at_call 19; with_reducible exact Calls.regrown_of (HI.out _)) | (go_at_call 21; with_reducible exact Calls.regrown_of (HQ.out _)) | (go_at_call 21; with_reducible exact Calls.regrown_of (HQ2.out _)) | (go_at_call 23; with_reducible exact Calls.regrown_of (HB.out _))))
    refine wpQuiet_nil ?_
    intro _ hw'
    obtain ⟨⟨dq, osq⟩, hw''⟩ := hw'
    subst hw''
    have J := below_regrown W dq osq
    generalize grow (redrawn W dq) osq = v at J ⊢
    go_wp2_with fail
    go_ret
    exact ⟨by rw [e1.out]; first | rfl | simp, bw_trans BW J⟩
  rw [hd] at HB
  have e1 : Hid (mayV o hs r p q = mayI o hs r p q) := by change _ = _; unfold mayV; rw [hr, hv, hp, hq, hd]; rfl
  have hd' : dt p.1 p.2 q.1 q.2 q.1 q.2 = 1 := of_decide_eq_true hd
  have n3 := plE_ne hv
  have n24 := plE_len o hs
  obtain ⟨N, hN⟩ : ∃ N, (plE o hs).length = N := ⟨_, rfl⟩
  have hOk2 : ∀ V, Below W.heap.size W V → Calls Tryz.prog 18 #[.agg #[.slice a la ca, .slice ah nh ch]] V fun e W' => e = .returned (.bool true) ∧ Below V.heap.size V W' := fun V hV => by have := sPlateOk_any a ah la ca nh ch o hs V (hh.below hV); rwa [hv] at this
  have hE : ∀ V, Below W.heap.size W V → Calls Tryz.prog 20 #[.agg #[.slice a la ca, .slice ah nh ch]] V _ := fun V hV => l11Edges_ok a ah la ca nh ch o hs hv V (hh.below hV)
  have hX : ∀ g c V, Below W.heap.size W V → SRow V g (plE o hs) → g < V.heap.size → Calls Tryz.prog 24 #[.agg #[.slice a la ca, .slice ah nh ch], .slice (some ⟨g, 0, none⟩) N c, .int .i64 r, .agg #[.int .i64 p.1, .int .i64 p.2], .agg #[.int .i64 q.1, .int .i64 q.2]] V fun e W' => e = .returned (.bool (mayV o hs r p q)) ∧ Below V.heap.size V W' := fun g c V hV hR hg => by
    have := sMayI_ok a ah la ca nh ch o hs g N c r p q V (hh.below hV) hv hr hp hq hd' hR hg hN
    rw [e1.out]; exact this
  have hS0 : (fun w' : World => (w'.cell? ⟨w.heap.size, 0, none⟩ = some (.slice a la ca) ∧ w'.cell? ⟨w.heap.size, 1, none⟩ = some (.slice ah nh ch)) ∧ (w'.cell? ⟨w.heap.size + 1, 0, none⟩ = some (.int .i64 p.1) ∧ w'.cell? ⟨w.heap.size + 1, 1, none⟩ = some (.int .i64 p.2)) ∧ (w'.cell? ⟨w.heap.size + 2, 0, none⟩ = some (.int .i64 q.1) ∧ w'.cell? ⟨w.heap.size + 2, 1, none⟩ = some (.int .i64 q.2))) W.drew := ⟨blk_2 TP, blk_2 T, blk_2 U⟩
  have H := bw_drew (bw_refl W)
  clear HO t0 t1 u0 u1 x0 x1
  go_enter Tryz.func55, Tryz.ntmps55
  go_upto_region 1 with fail
  rw [← hW]
  clear hW
  go_region_held3 (fun w' : World => (w'.cell? ⟨w.heap.size, 0, none⟩ = some (.slice a la ca) ∧ w'.cell? ⟨w.heap.size, 1, none⟩ = some (.slice ah nh ch)) ∧ (w'.cell? ⟨w.heap.size + 1, 0, none⟩ = some (.int .i64 p.1) ∧ w'.cell? ⟨w.heap.size + 1, 1, none⟩ = some (.int .i64 p.2)) ∧ (w'.cell? ⟨w.heap.size + 2, 0, none⟩ = some (.int .i64 q.1) ∧ w'.cell? ⟨w.heap.size + 2, 1, none⟩ = some (.int .i64 q.2)))
    (first | exact ⟨⟨cellB J hS0.1.1, cellB J hS0.1.2⟩, ⟨cellB J hS0.2.1.1, cellB J hS0.2.1.2⟩, ⟨cellB J hS0.2.2.1, cellB J hS0.2.2.2⟩⟩ | exact hS0)
    (first
      | (go_at_call 18; refine (hOk2 _ H).mono ?_; rintro e w2 ⟨rfl, J⟩; replace H := bw_trans H J; replace hS0 : (fun w' : World => (w'.cell? ⟨w.heap.size, 0, none⟩ = some (.slice a la ca) ∧ w'.cell? ⟨w.heap.size, 1, none⟩ = some (.slice ah nh ch)) ∧ (w'.cell? ⟨w.heap.size + 1, 0, none⟩ = some (.int .i64 p.1) ∧ w'.cell? ⟨w.heap.size + 1, 1, none⟩ = some (.int .i64 p.2)) ∧ (w'.cell? ⟨w.heap.size + 2, 0, none⟩ = some (.int .i64 q.1) ∧ w'.cell? ⟨w.heap.size + 2, 1, none⟩ = some (.int .i64 q.2))) w2 := ⟨⟨cellB J hS0.1.1, cellB J hS0.1.2⟩, ⟨cellB J hS0.2.1.1, cellB J hS0.2.1.2⟩, ⟨cellB J hS0.2.2.1, cellB J hS0.2.2.2⟩⟩)
      | (go_at_call 19; refine (HI.out _).mono ?_; rintro e w2 ⟨rfl, J⟩; replace H := bw_trans H J; replace hS0 : (fun w' : World => (w'.cell? ⟨w.heap.size, 0, none⟩ = some (.slice a la ca) ∧ w'.cell? ⟨w.heap.size, 1, none⟩ = some (.slice ah nh ch)) ∧ (w'.cell? ⟨w.heap.size + 1, 0, none⟩ = some (.int .i64 p.1) ∧ w'.cell? ⟨w.heap.size + 1, 1, none⟩ = some (.int .i64 p.2)) ∧ (w'.cell? ⟨w.heap.size + 2, 0, none⟩ = some (.int .i64 q.1) ∧ w'.cell? ⟨w.heap.size + 2, 1, none⟩ = some (.int .i64 q.2))) w2 := ⟨⟨cellB J hS0.1.1, cellB J hS0.1.2⟩, ⟨cellB J hS0.2.1.1, cellB J hS0.2.1.2⟩, ⟨cellB J hS0.2.2.1, cellB J hS0.2.2.2⟩⟩)
      | (go_at_call 21; with_reducible refine (HQ.out _).mono ?_; rintro e w2 ⟨rfl, J⟩; replace H := bw_trans H J; replace hS0 : (fun w' : World => (w'.cell? ⟨w.heap.size, 0, none⟩ = some (.slice a la ca) ∧ w'.cell? ⟨w.heap.size, 1, none⟩ = some (.slice ah nh ch)) ∧ (w'.cell? ⟨w.heap.size + 1, 0, none⟩ = some (.int .i64 p.1) ∧ w'.cell? ⟨w.heap.size + 1, 1, none⟩ = some (.int .i64 p.2)) ∧ (w'.cell? ⟨w.heap.size + 2, 0, none⟩ = some (.int .i64 q.1) ∧ w'.cell? ⟨w.heap.size + 2, 1, none⟩ = some (.int .i64 q.2))) w2 := ⟨⟨cellB J hS0.1.1, cellB J hS0.1.2⟩, ⟨cellB J hS0.2.1.1, cellB J hS0.2.1.2⟩, ⟨cellB J hS0.2.2.1, cellB J hS0.2.2.2⟩⟩)
      | (go_at_call 21; refine (HQ2.out _).mono ?_; rintro e w2 ⟨rfl, J⟩; replace H := bw_trans H J; replace hS0 : (fun w' : World => (w'.cell? ⟨w.heap.size, 0, none⟩ = some (.slice a la ca) ∧ w'.cell? ⟨w.heap.size, 1, none⟩ = some (.slice ah nh ch)) ∧ (w'.cell? ⟨w.heap.size + 1, 0, none⟩ = some (.int .i64 p.1) ∧ w'.cell? ⟨w.heap.size + 1, 1, none⟩ = some (.int .i64 p.2)) ∧ (w'.cell? ⟨w.heap.size + 2, 0, none⟩ = some (.int .i64 q.1) ∧ w'.cell? ⟨w.heap.size + 2, 1, none⟩ = some (.int .i64 q.2))) w2 := ⟨⟨cellB J hS0.1.1, cellB J hS0.1.2⟩, ⟨cellB J hS0.2.1.1, cellB J hS0.2.1.2⟩, ⟨cellB J hS0.2.2.1, cellB J hS0.2.2.2⟩⟩)
      | (go_at_call 23; refine (HB.out _).mono ?_; rintro e w2 ⟨rfl, J⟩; replace H := bw_trans H J; replace hS0 : (fun w' : World => (w'.cell? ⟨w.heap.size, 0, none⟩ = some (.slice a la ca) ∧ w'.cell? ⟨w.heap.size, 1, none⟩ = some (.slice ah nh ch)) ∧ (w'.cell? ⟨w.heap.size + 1, 0, none⟩ = some (.int .i64 p.1) ∧ w'.cell? ⟨w.heap.size + 1, 1, none⟩ = some (.int .i64 p.2)) ∧ (w'.cell? ⟨w.heap.size + 2, 0, none⟩ = some (.int .i64 q.1) ∧ w'.cell? ⟨w.heap.size + 2, 1, none⟩ = some (.int .i64 q.2))) w2 := ⟨⟨cellB J hS0.1.1, cellB J hS0.1.2⟩, ⟨cellB J hS0.2.1.1, cellB J hS0.2.1.2⟩, ⟨cellB J hS0.2.2.1, cellB J hS0.2.2.2⟩⟩)
      | (go_at_call 20; refine (hE _ H).mono ?_; rintro e w2 ⟨v, rfl, ho, J⟩; obtain ⟨g, c, rfl, hg, hR⟩ := row_of_owns' ho (by omega); rw [hN]; replace H := bw_trans H J; replace hS0 : (fun w' : World => (w'.cell? ⟨w.heap.size, 0, none⟩ = some (.slice a la ca) ∧ w'.cell? ⟨w.heap.size, 1, none⟩ = some (.slice ah nh ch)) ∧ (w'.cell? ⟨w.heap.size + 1, 0, none⟩ = some (.int .i64 p.1) ∧ w'.cell? ⟨w.heap.size + 1, 1, none⟩ = some (.int .i64 p.2)) ∧ (w'.cell? ⟨w.heap.size + 2, 0, none⟩ = some (.int .i64 q.1) ∧ w'.cell? ⟨w.heap.size + 2, 1, none⟩ = some (.int .i64 q.2))) w2 := ⟨⟨cellB J hS0.1.1, cellB J hS0.1.2⟩, ⟨cellB J hS0.2.1.1, cellB J hS0.2.1.2⟩, ⟨cellB J hS0.2.2.1, cellB J hS0.2.2.2⟩⟩)
      | (go_at_call 24; refine (hX g c _ H hR hg).mono ?_; rintro e w2 ⟨rfl, J⟩; replace H := bw_trans H J; replace hS0 : (fun w' : World => (w'.cell? ⟨w.heap.size, 0, none⟩ = some (.slice a la ca) ∧ w'.cell? ⟨w.heap.size, 1, none⟩ = some (.slice ah nh ch)) ∧ (w'.cell? ⟨w.heap.size + 1, 0, none⟩ = some (.int .i64 p.1) ∧ w'.cell? ⟨w.heap.size + 1, 1, none⟩ = some (.int .i64 p.2)) ∧ (w'.cell? ⟨w.heap.size + 2, 0, none⟩ = some (.int .i64 q.1) ∧ w'.cell? ⟨w.heap.size + 2, 1, none⟩ = some (.int .i64 q.2))) w2 := ⟨⟨cellB J hS0.1.1, cellB J hS0.1.2⟩, ⟨cellB J hS0.2.1.1, cellB J hS0.2.1.2⟩, ⟨cellB J hS0.2.2.1, cellB J hS0.2.2.2⟩⟩))
  all_goals go_wp2_with fail
  all_goals go_ret
  all_goals exact ⟨by first | rfl | simp, bw_trans BW H⟩
end Go.Proofs.YtkncejcpeejkkaaGreatDoor
namespace Go.Proofs.YtkncejcpeejkkaaGreatDoor
open Go.RowKit Go.Sort

theorem cellAl' {W : World} {o : Obj} {a : Addr} {v : Value} (h : W.cell? a = some v) : (W.alloc o).cell? a = some v := cellB (bw_alloc (bw_refl _) o) h
/-- The points beside a point: right, up, left, down. -/
def fourP (p : P2) : List P2 := [(p.1 + 1, p.2), (p.1, p.2 + 1), (p.1 - 1, p.2), (p.1, p.2 - 1)]
def gridP (l : List P2) : List P2 := l.filter fun q => ptB q.1 q.2
theorem gridP_succ (l : List P2) (k : Nat) (hk : k < l.length) : gridP (l.take (k + 1)) = gridP (l.take k) ++ (if ptB (ptAt l k).1 (ptAt l k).2 then [ptAt l k] else []) := by
  unfold gridP
  rw [List.take_add_one, List.filter_append]
  have e : l[k]? = some (ptAt l k) := by unfold ptAt; rw [List.getElem?_eq_getElem hk]; rfl
  rw [e]
  by_cases h : ptB (ptAt l k).1 (ptAt l k).2 = true
  · rw [if_pos h]; simp [h]
  · rw [if_neg h]; simp [h]
theorem gridP_ne {p : P2} (hp : ptB p.1 p.2 = true) : 1 ≤ (gridP (fourP p)).length := by
  rw [ptB_iff] at hp
  apply List.length_pos_of_mem (a := if p.1 < 9 then (p.1 + 1, p.2) else (p.1 - 1, p.2))
  unfold gridP fourP
  rw [List.mem_filter]
  by_cases h : p.1 < 9
  · rw [if_pos h]; exact ⟨by simp, by rw [ptB_iff]; dsimp only; omega⟩
  · rw [if_neg h]; exact ⟨by simp, by rw [ptB_iff]; dsimp only; omega⟩
theorem gridP_le (l : List P2) (k : Nat) : (gridP (l.take k)).length ≤ k := Nat.le_trans (List.length_filter_le _ _) (by rw [List.length_take]; omega)
theorem gridP_pt {l : List P2} {j : Nat} (h : j < (gridP l).length) : ptB (ptAt (gridP l) j).1 (ptAt (gridP l) j).2 = true := by
  have : ptAt (gridP l) j ∈ gridP l := by unfold ptAt; rw [List.getElem?_eq_getElem h]; exact List.getElem_mem _
  exact (List.mem_filter.1 this).2
set_option maxRecDepth 100000 in
set_option maxHeartbeats 4000000 in
theorem l13Steps_ok (p : P2) (hp : ptB p.1 p.2 = true) (w : World) :
    Calls Tryz.prog 54 #[.agg #[.int .i64 p.1, .int .i64 p.2]] w fun e W' => ∃ (g c m : Nat), e = .returned (.slice (some ⟨g, 0, none⟩) m c) ∧ 1 ≤ m ∧ m ≤ 4 ∧ (gridP (fourP p)).length = m ∧ w.heap.size ≤ g ∧ PtBlk W' g c (gridP (fourP p)) m ∧ Below w.heap.size w W' := by
  obtain ⟨i0', hi0, hz0, hz1, hz2⟩ := info_parts Tryz.infoPt
  obtain ⟨b1, b2, b3, b4⟩ := (ptB_iff _ _).1 hp
  have hne := gridP_ne hp
  obtain ⟨L, hL⟩ : ∃ L, fourP p = L := ⟨_, rfl⟩
  have hL4 : L.length = 4 := by rw [← hL]; rfl
  obtain ⟨W, hW, BW, TP, TO, TL⟩ : ∃ W, W = ((w.alloc (.cells #[.int .i64 p.1, .int .i64 p.2] 43)).alloc (.cells #[] 43)).alloc (.cells #[.int .i64 (p.1 + 1), .int .i64 p.2, .int .i64 p.1, .int .i64 (p.2 + 1), .int .i64 (p.1 - 1), .int .i64 p.2, .int .i64 p.1, .int .i64 (p.2 - 1)] 43) ∧ Below w.heap.size w W ∧ W.heap[w.heap.size]? = some (.cells #[.int .i64 p.1, .int .i64 p.2] 43) ∧ W.ownsRow w.heap.size 43 2 (.slice (some ⟨w.heap.size + 1, 0, none⟩) 0 0) 0 [] ∧ (∀ j, j < 4 → W.cell? ⟨w.heap.size + 1 + 1, j * 2, none⟩ = some (.int .i64 (ptAt L j).1) ∧ W.cell? ⟨w.heap.size + 1 + 1, j * 2 + 1, none⟩ = some (.int .i64 (ptAt L j).2)) := by
    refine ⟨_, rfl, (by repeat (first | exact bw_refl _ | assumption | apply bw_drewN | apply bw_drew | apply bw_alloc | refine bw_set ?_ (by simp) _)), ?_, ?_, ?_⟩
    · exact (heap_old _ _ (by simp <;> omega)).trans ((heap_old _ _ (by simp)).trans (heap_new _ _))
    · have h1 := World.ownsRow_made (w.alloc (.cells #[.int .i64 p.1, .int .i64 p.2] 43)) (base := w.heap.size) (e := 43) (size := 2) #[] 0 (by simp) (by simp [maxLen]) rfl
      have h2 := h1.alloc (.cells #[.int .i64 (p.1 + 1), .int .i64 p.2, .int .i64 p.1, .int .i64 (p.2 + 1), .int .i64 (p.1 - 1), .int .i64 p.2, .int .i64 p.1, .int .i64 (p.2 - 1)] 43)
      rw [World.size_alloc] at h2
      exact h2
    · intro j hj
      have hb : (((w.alloc (.cells #[.int .i64 p.1, .int .i64 p.2] 43)).alloc (.cells #[] 43)).alloc (.cells #[.int .i64 (p.1 + 1), .int .i64 p.2, .int .i64 p.1, .int .i64 (p.2 + 1), .int .i64 (p.1 - 1), .int .i64 p.2, .int .i64 p.1, .int .i64 (p.2 - 1)] 43)).heap[w.heap.size + 1 + 1]? = some (.cells #[.int .i64 (p.1 + 1), .int .i64 p.2, .int .i64 p.1, .int .i64 (p.2 + 1), .int .i64 (p.1 - 1), .int .i64 p.2, .int .i64 p.1, .int .i64 (p.2 - 1)] 43 (0, 0)) := by
        have := heap_new ((w.alloc (.cells #[.int .i64 p.1, .int .i64 p.2] 43)).alloc (.cells #[] 43)) (.cells #[.int .i64 (p.1 + 1), .int .i64 p.2, .int .i64 p.1, .int .i64 (p.2 + 1), .int .i64 (p.1 - 1), .int .i64 p.2, .int .i64 p.1, .int .i64 (p.2 - 1)] 43)
        simpa using this
      rw [row_cell hb, row_cell hb, ← hL]
      have : j = 0 ∨ j = 1 ∨ j = 2 ∨ j = 3 := by omega
      rcases this with rfl | rfl | rfl | rfl <;> exact ⟨rfl, rfl⟩
  rw [hL]
  rw [hL] at hne
  have HB : Hid (∀ j, j < 4 → -1 ≤ (ptAt L j).1 ∧ (ptAt L j).1 ≤ 10 ∧ -1 ≤ (ptAt L j).2 ∧ (ptAt L j).2 ≤ 10) := fun j hj => by
    rw [← hL]
    have : j = 0 ∨ j = 1 ∨ j = 2 ∨ j = 3 := by omega
    rcases this with rfl | rfl | rfl | rfl <;> (unfold fourP ptAt; simp; omega)
  have HG : Hid (∀ k, k < 4 → gridP (L.take (k + 1)) = gridP (L.take k) ++ (if ptB (ptAt L k).1 (ptAt L k).2 then [ptAt L k] else [])) := fun k hk => gridP_succ L k (by omega)
  have HE : Hid (gridP (L.take 4) = gridP L) := by change _ = _; rw [List.take_of_length_le (by omega)]
  have HZ : Hid (gridP (L.take 0) = []) := rfl
  have HLe : Hid (∀ k, (gridP (L.take k)).length ≤ k) := fun k => gridP_le L k
  have HN : Hid (1 ≤ (gridP L).length) := hne
  have zW := BW.size
  have zL : w.heap.size + 1 + 1 < W.heap.size := by rw [hW]; simp
  clear hne hL
  obtain ⟨x0, x1⟩ := blk_2 (heap_new w (.cells #[.int .i64 p.1, .int .i64 p.2] 43))
  go_enter Tryz.func54, Tryz.ntmps54
  go_upto_region 3 with fail
  rw [← hW]
  clear hW x0 x1 TP
  go_wp2_with fail
  go_loopw [3, 5] (fun o i wr => ∃ k : Nat, k ≤ 4 ∧ i = .int .i64 k ∧ wr.ownsRow w.heap.size 43 2 o (gridP (L.take k)).length (ptCells (gridP (L.take k))) ∧ (∀ b, o.ownBlock = some b → b ≠ w.heap.size + 1 + 1) ∧ Below w.heap.size w wr ∧ w.heap.size + 1 + 1 < wr.heap.size ∧ ∀ j, j < 4 → wr.cell? ⟨w.heap.size + 1 + 1, j * 2, none⟩ = some (.int .i64 (ptAt L j).1) ∧ wr.cell? ⟨w.heap.size + 1 + 1, j * 2 + 1, none⟩ = some (.int .i64 (ptAt L j).2)) (fun _ i _ => 4 - (intOf i).toNat)
  case atStart => exact ⟨0, by omega, rfl, by rw [HZ.out]; exact TO, (fun b e => by have e' : w.heap.size + 1 = b := Option.some.inj e; omega), BW, zL, TL⟩
  case round =>
    obtain ⟨k, hk, rfl, hown, hob, hnx, zr, hcs⟩ := hrel
    have HC : Hid (∀ j, j < 4 → wr.cell? ⟨w.heap.size + 1 + 1, j * 2, none⟩ = some (.int .i64 (ptAt L j).1) ∧ wr.cell? ⟨w.heap.size + 1 + 1, j * 2 + 1, none⟩ = some (.int .i64 (ptAt L j).2)) := hcs
    clear hcs
    by_cases hlt : k < 4
    case neg =>
      obtain rfl : k = 4 := by omega
      rw [HE.out] at hown
      have h1 := HN.out
      obtain ⟨m, hm⟩ : ∃ m, (gridP L).length = m := ⟨_, rfl⟩
      have hm4 : m ≤ 4 := by have := HLe.out 4; rw [HE.out] at this; omega
      rw [hm] at hown h1
      obtain ⟨g2, c2, rfl, _, _⟩ := hown.form (by omega)
      obtain ⟨hb3, _, _, hg2⟩ := blk_of_own hown hm
      clear hob
      go_wp2_with fail
      go_ret
      exact ⟨g2, c2, m, rfl, h1, hm4, hm, hg2, hb3, hnx⟩
    case pos =>
      have i0 : (0 : Int) ≤ (k : Int) := Int.natCast_nonneg _
      have i1 : (k : Int) < 4 := by omega
      obtain ⟨d0, d1⟩ := HC.out k hlt
      obtain ⟨y1, y2, y3, y4⟩ := HB.out k hlt
      have hsu := HG.out k hlt
      cases hq : ptB (ptAt L k).1 (ptAt L k).2
      case false =>
        have e1 : Hid (gridP (L.take (k + 1)) = gridP (L.take k)) := by change _ = _; rw [hsu, hq]; simp
        clear hsu
        go_wp2_with fail
        refine (sPt_raw (ptAt L k) _).mono ?_
        rw [hq]
        rintro e v ⟨rfl, J⟩
        have zJ := J.size
        go_wp2_with fail
        go_roundw
        case rel => exact ⟨k + 1, by omega, by simp, by rw [e1.out]; exact own_below hown J, hob, bw_trans hnx J, by omega, fun j hj => ⟨(J.cell (p := ⟨w.heap.size + 1 + 1, j * 2, none⟩) zr).trans (HC.out j hj).1, (J.cell (p := ⟨w.heap.size + 1 + 1, j * 2 + 1, none⟩) zr).trans (HC.out j hj).2⟩⟩
        case measure => simp [intOf]; omega
      case true =>
        have e1 : Hid (gridP (L.take (k + 1)) = gridP (L.take k) ++ [ptAt L k]) := by change _ = _; rw [hsu, hq]; simp
        have hle := HLe.out k
        obtain ⟨m, hm⟩ : ∃ m, (gridP (L.take k)).length = m := ⟨_, rfl⟩
        rw [hm] at hown hle
        have hm1 : (gridP (L.take (k + 1))).length = m + 1 := by rw [e1.out, List.length_append, hm]; rfl
        clear hsu
        go_wp2_with fail
        refine (sPt_raw (ptAt L k) _).mono ?_
        rw [hq]
        rintro e v ⟨rfl, J⟩
        have zJ := J.size
        have c0 := (J.cell (p := ⟨w.heap.size + 1 + 1, k * 2, none⟩) zr).trans d0
        have c1 := (J.cell (p := ⟨w.heap.size + 1 + 1, k * 2 + 1, none⟩) zr).trans d1
        have hown2 := own_below hown J
        have hnx2 := bw_trans hnx J
        have zv := hnx2.size
        clear d0 d1
        go_wp2_with (at_builtin; refine wpList_append_lies _ rfl _ _ _ rfl w.heap.size 43 i0' _ 2 16 Tryz.underlying29 hi0 hz0 hz1 hz2 rfl (by omega) _ m _ rfl (hown2.alloc _) ⟨v.heap.size, 0, none⟩ 1 1 [.int .i64 (ptAt L k).1, .int .i64 (ptAt L k).2] rfl rfl (World.news_of_block (cs := #[.int .i64 (ptAt L k).1, .int .i64 (ptAt L k).2]) (t := 43) (fr := (0, 0)) (heap_alloc_new v _)) (by simp [Value.oneCell']) (by omega) (by simp [maxLen]; omega) (by omega) (by simp; omega) (v.heap.size + 1) (by simp) ?_; intro gg cap' w8 hown1 hgrow hat hlt1)
        go_roundw
        case rel =>
          have hs8 := hgrow.size
          simp only [World.size_alloc] at hs8
          have kk : ∀ o u, v.cell? ⟨w.heap.size + 1 + 1, o, none⟩ = some u → w8.cell? ⟨w.heap.size + 1 + 1, o, none⟩ = some u := fun o u hu => by
            have z1 : w.heap.size + 1 + 1 < (v.alloc (.cells #[.int .i64 (ptAt L k).1, .int .i64 (ptAt L k).2] 43)).heap.size := by simp; omega
            exact (World.cell?_of_block (hgrow.block _ z1 (fun e => by have := hob _ e.symm; exact this rfl))).trans (cellAl' hu)
          exact ⟨k + 1, by omega, by simp, by rw [e1.out, ptCells_snoc, List.length_append, hm]; exact hown1, (fun b e => by rcases hat with h | h; exact fun e2 => hob gg h (by rw [← e2]; exact Option.some.inj e); have e' : gg = b := Option.some.inj e; omega), (hnx2.alloc hnx2.size _).grown hgrow (by simp; omega) (fun j e => (hown.lt j e).1), by omega, fun j hj => ⟨kk _ _ ((J.cell (p := ⟨w.heap.size + 1 + 1, j * 2, none⟩) zr).trans (HC.out j hj).1), kk _ _ ((J.cell (p := ⟨w.heap.size + 1 + 1, j * 2 + 1, none⟩) zr).trans (HC.out j hj).2)⟩⟩
        case measure => simp [intOf]; omega
set_option maxRecDepth 100000 in
set_option maxHeartbeats 8000000 in
theorem l72Walk_any (k : Nat) (a : Option Addr) (len cap r : Nat) (w : World) (hk : k ≤ 10) (R : Rd w r k a len cap) :
    Calls Tryz.prog 33 #[.pointer (some ⟨r, 0, none⟩)] w fun e w' => ∃ (o : LoopT) (hv : Value) (hs : List LoopT) (t : Int) (pg pc m : Nat) (pl : List P2) (k' : Nat), e = .returned (.tuple #[.agg #[o.v, hv], .int .i64 t, .slice (some ⟨pg, 0, none⟩) m pc]) ∧ (-1 ≤ t ∧ t ≤ 10) ∧ PlD w.heap.size w' o hv hs ∧ (hs.length ≤ 3 ∧ Seat hv) ∧ (m ≤ 16 ∧ pl.length = m ∧ m ≤ pc ∧ pc ≤ maxLen ∧ w.heap.size ≤ pg ∧ PtBlk w' pg pc pl m) ∧ k' ≤ 900000 ∧ Rd w' r k' a len cap ∧ Only r w w' := by
  obtain ⟨i0', hi0, hz0, hz1, hz2⟩ := info_parts Tryz.infoPt
  have hlt := R.lt
  obtain ⟨W, hW, BW, T⟩ : ∃ W, W = w.alloc (.cells #[.slice none 0 0, .slice none 0 0] 32) ∧ Below w.heap.size w W ∧ W.heap[w.heap.size]? = some (.cells #[.slice none 0 0, .slice none 0 0] 32 (0, 0)) := ⟨_, rfl, (by repeat (first | exact bw_refl _ | assumption | apply bw_drewN | apply bw_drew | apply bw_alloc | refine bw_set ?_ (by simp) _)), heap_new _ _⟩
  have P : Only r w W := by rw [hW]; exact (Only.refl r w).alloc _
  have zT := blk_lt T
  have zW := BW.size
  go_enter Tryz.func33, Tryz.ntmps33
  go_wp2_with fail
  rw [← hW]
  clear hW
  refine (l71Stand_any k a len cap r _ hk (R.below BW)).mono ?_
  clear R
  rintro e w3 ⟨⟨g, n, c, l⟩, hv, hs, t, x, y, k2, he, ht, hPB, hD, ⟨hs3, hst⟩, hk2, R, O⟩
  obtain rfl : e = .returned (.tuple #[.agg #[.slice (some ⟨g, 0, none⟩) n c, hv], .int .i64 t, .agg #[.int .i64 x, .int .i64 y]]) := he
  obtain ⟨gh, ch, rfl⟩ : ∃ gh ch, hv = .slice (some ⟨gh, 0, none⟩) hs.length ch := own_seat hD.2.2.1 hst
  replace T := keepO O T (by omega)
  replace P := P.trans O
  have z3 := P.size
  have z3' := O.size
  clear O
  obtain ⟨N, hNN⟩ : ∃ N, hs.length = N := ⟨_, rfl⟩
  have HN : Hid (hs.length = N) := hNN
  rw [hNN]
  clear hNN
  obtain ⟨W4, hW4, B4, TP, TA⟩ := boxes2 w3 (.cells #[.slice (some ⟨g, 0, none⟩) n c, .slice (some ⟨gh, 0, none⟩) N ch] 32) (.cells #[.int .i64 x, .int .i64 y] 43)
  have zr3 : r < w3.heap.size := R.lt
  have P4 : Only r w3 W4 := Only.of_below B4
  replace R := R.below B4
  have z4 : w3.heap.size + 2 ≤ W4.heap.size := by rw [hW4]; simp
  go_upto_region 2 with fail
  rw [← hW4]
  clear hW4
  obtain ⟨ta0, ta1⟩ := blk_2 TA
  have hown := World.ownsRow_lit W4 (base := W4.heap.size) (e := 43) (size := 2) #[.int .i64 x, .int .i64 y] 1 (Nat.le_refl _) (by simp [maxLen]) rfl
  have R5 := R.alloc (.cells #[.int .i64 x, .int .i64 y] 43)
  have A5 := (heap_old W4 (.cells #[.int .i64 x, .int .i64 y] 43) (blk_lt TA)).trans TA
  have P5 := (heap_old W4 (.cells #[.int .i64 x, .int .i64 y] 43) (blk_lt TP)).trans TP
  have Q5 := P4.alloc (.cells #[.int .i64 x, .int .i64 y] 43)
  have Z5 : W4.heap.size < (W4.alloc (.cells #[.int .i64 x, .int .i64 y] 43)).heap.size := by simp
  clear R B4
  go_wp2_with fail
  obtain ⟨W5, hW5⟩ : ∃ W5, W4.alloc (.cells #[.int .i64 x, .int .i64 y] 43) = W5 := ⟨_, rfl⟩
  rw [hW5] at hown R5 A5 P5 Q5 Z5 ⊢
  clear hW5
  refine (pick_rd 14 k2 a len cap r _ (by omega) (by omega) R5).mono ?_
  clear R5
  rintro e w5 ⟨q0, rfl, qa, qb, R, O⟩
  have A6 := keepO O A5 (by omega)
  have P6 := keepO O P5 (by omega)
  have Q6 := Q5.trans O
  have hown6 := own_only hown O (by omega)
  have z6 := O.size
  clear ta0 ta1 TA TP O A5 P5 Q5 hown
  go_wp2_with fail
  go_loopw [8, 9] (fun pv i wr => ∃ (pv0 : Value) (q : Int) (x1 y1 : Int) (kk m : Nat) (pl : List P2), pv0 = pv ∧ i = .int .i64 q ∧ (-1 ≤ q ∧ q ≤ 13) ∧ PB x1 y1 ∧ (kk : Int) ≤ k2 + 1 + (13 - q) * 2 ∧ (m : Int) ≤ 14 - q ∧ 1 ≤ m ∧ pl.length = m ∧ wr.ownsRow W4.heap.size 43 2 pv m (ptCells pl) ∧ Rd wr r kk a len cap ∧ Only r w3 wr ∧ W4.heap.size < wr.heap.size ∧ wr.heap[w3.heap.size]? = some (.cells #[.slice (some ⟨g, 0, none⟩) n c, .slice (some ⟨gh, 0, none⟩) N ch] 32 (0, 0)) ∧ wr.heap[w3.heap.size + 1]? = some (.cells #[.int .i64 x1, .int .i64 y1] 43)) (fun _ i _ => (intOf i + 1).toNat)
  case atStart => exact ⟨_, q0, x, y, k2 + 1, 1, [(x, y)], rfl, rfl, by omega, hPB, by omega, by omega, by omega, rfl, by simpa [ptCells] using hown6, R, Q6, by omega, P6, A6⟩
  case round =>
    obtain ⟨pv, q, x1, y1, kk, m, pl, rfl, rfl, hq, hPB1, hkk, hm, hm1, hpl, hown, R, Q, zw, TP, TA⟩ := hrel
    have zQ0 := Q.size
    obtain ⟨c0, c1⟩ := blk_2 TA
    by_cases hq0 : 0 < q
    case neg =>
      obtain ⟨p0, p1⟩ := blk_2 TP
      go_wp2_with fail
      refine (pick_rd 16 kk a len cap r _ (by omega) (by omega) R).mono ?_
      clear R
      rintro e y1' ⟨u, rfl, ua, ub, R, O⟩
      have Q2 := Q.trans O
      have hown2 := own_only hown O (by omega)
      have TP2 := keepO O TP (by omega)
      have zO := O.size
      have zQ := Q2.size
      clear O p0 p1
      have hu : u = 0 ∨ u = 1 ∨ (u ≠ 0 ∧ u ≠ 1) := by omega
      rcases hu with rfl | rfl | ⟨u0, u1⟩
      · go_wp2_with fail
        refine (l71Pt_any (kk + 1) a len cap r _ (by omega) R).mono ?_
        clear R
        rintro e y2 ⟨x2, y2', kz, rfl, hPB2, hkz, R, O⟩
        have Q3 := Q2.trans O
        have hown3 := own_only hown2 O (by omega)
        have TP3 := keepO O TP2 (by omega)
        have zO2 := O.size
        have zQ3 := Q3.size
        clear O
        have zt := blk_lt TP3
        have e0 := (heap_old y2 (.cells #[.int .i64 x2, .int .i64 y2'] 43) zt).trans TP3
        have T3 := keepO Q3 T (by omega)
        have zt3 := blk_lt T3
        have e3 := (heap_old y2 (.cells #[.int .i64 x2, .int .i64 y2'] 43) zt3).trans T3
        have hob : ∀ j, pv.ownBlock = some j → w3.heap.size ≤ j := fun j e => by have := (hown.lt j e).1; omega
        have hne0 : ∀ b, b < W4.heap.size → some b ≠ pv.ownBlock := fun b hb e => by have := (hown.lt b e.symm).1; omega
        go_wp2_with (at_builtin; refine wpList_append_lies _ rfl _ _ _ rfl W4.heap.size 43 i0' _ 2 16 Tryz.underlying29 hi0 hz0 hz1 hz2 rfl (by omega) _ m _ rfl (hown3.alloc _) ⟨y2.heap.size, 0, none⟩ 1 1 [.int .i64 x2, .int .i64 y2'] rfl rfl (World.news_of_block (cs := #[.int .i64 x2, .int .i64 y2']) (t := 43) (fr := (0, 0)) (heap_alloc_new y2 _)) (by simp [Value.oneCell']) (by omega) (by simp [maxLen]; omega) (by omega) (by simp; omega) (y2.heap.size + 1) (by simp) ?_; intro gg cap' w8 hown1 hgrow hat hlt1; have TP8 := (hgrow.block _ (by simp; omega) (hne0 w3.heap.size (by omega))).trans e0; obtain ⟨p0, p1⟩ := blk_2 TP8; have T8 := (hgrow.block _ (by simp; omega) (hne0 w.heap.size (by omega))).trans e3; obtain ⟨a0, a1, af0, af1⟩ := blk2 T8)
        have Q8 : Only r w3 w8 := (Q3.alloc (.cells #[.int .i64 x2, .int .i64 y2'] 43)).grown hgrow hob
        have R8 := (R.alloc (.cells #[.int .i64 x2, .int .i64 y2'] 43)).grown hgrow (fun j e => by have := (hown.lt j e).1; omega)
        have h9 : w8.ownsRow W4.heap.size 43 2 (.slice (some ⟨gg, 0, none⟩) (m + 1) cap') (m + 1) (ptCells (pl ++ [(x2, y2')])) := by rw [ptCells_snoc]; exact hown1
        obtain ⟨hb9, hnc9, hcm9, hbg9⟩ := blk_of_own h9 (by simp [hpl])
        have T9 := setB2 (u0 := .slice (some ⟨g, 0, none⟩) n c) (u1 := .slice (some ⟨gh, 0, none⟩) N ch) T8
        obtain ⟨r0, r1, _, _⟩ := blk2 T9
        have hDz := hD.only (r := r) Q8 (by omega)
        have hstz := hst
        rw [HN.out] at hDz hstz
        refine bodyPost_ret (v := .tuple #[.agg #[.slice (some ⟨g, 0, none⟩) n c, .slice (some ⟨gh, 0, none⟩) N ch], .int .i64 t, .slice (some ⟨gg, 0, none⟩) (m + 1) cap']) (by simp [results, Tryz.results33, go_sem, r0, r1]) rfl ?_
        exact ⟨⟨g, n, c, l⟩, _, hs, t, gg, cap', (m + 1), pl ++ [(x2, y2')], kz, rfl, ht, ((hDz.set (by omega) _).set (by omega) _).mono (by omega), ⟨hs3, hstz⟩, ⟨by omega, by simp [hpl], hnc9, hcm9, by omega, blk_only hb9 (((Only.refl w.heap.size _).set (.inl rfl) _).set (.inl rfl) _) (by omega)⟩, by omega, (R8.set (by show r < w.heap.size; omega) _).set (by show r < w.heap.size; omega) _, ((P.trans Q8).set (.inr (Nat.le_refl _)) _).set (.inr (Nat.le_refl _)) _⟩
      · have TE := (heap_old y1' (.cells #[] 43) (blk_lt TP2)).trans TP2
        have T2 := keepO Q2 T (by omega)
        have TF := (heap_old y1' (.cells #[] 43) (blk_lt T2)).trans T2
        have hN1 := heap_new y1' (.cells #[] 43)
        have hb9 : PtBlk (y1'.alloc (.cells #[] 43)) y1'.heap.size 0 [] 0 := ⟨#[], hN1, rfl, fun j hj => absurd hj (Nat.not_lt_zero _)⟩
        have Q8 := Q2.alloc (.cells #[] 43)
        have R8 := R.alloc (.cells #[] 43)
        obtain ⟨p0, p1⟩ := blk_2 TE
        obtain ⟨a0, a1, af0, af1⟩ := blk2 TF
        go_wp2_with fail
        have T9 := setB2 (u0 := .slice (some ⟨g, 0, none⟩) n c) (u1 := .slice (some ⟨gh, 0, none⟩) N ch) TF
        obtain ⟨r0, r1, _, _⟩ := blk2 T9
        have hDz := hD.only (r := r) Q8 (by omega)
        have hstz := hst
        rw [HN.out] at hDz hstz
        refine bodyPost_ret (v := .tuple #[.agg #[.slice (some ⟨g, 0, none⟩) n c, .slice (some ⟨gh, 0, none⟩) N ch], .int .i64 t, .slice (some ⟨y1'.heap.size, 0, none⟩) 0 0]) (by simp [results, Tryz.results33, go_sem, r0, r1]) rfl ?_
        exact ⟨⟨g, n, c, l⟩, _, hs, t, y1'.heap.size, 0, 0, [], kk + 1, rfl, ht, ((hDz.set (by omega) _).set (by omega) _).mono (by omega), ⟨hs3, hstz⟩, ⟨by omega, rfl, Nat.le_refl _, by simp [maxLen], by omega, blk_only hb9 (((Only.refl w.heap.size _).set (.inl rfl) _).set (.inl rfl) _) (by omega)⟩, by omega, (R8.set (by show r < w.heap.size; omega) _).set (by show r < w.heap.size; omega) _, ((P.trans Q8).set (.inr (Nat.le_refl _)) _).set (.inr (Nat.le_refl _)) _⟩
      · have u0' : (u == 0) = false := by simpa using u0
        have u1' : (u == 1) = false := by simpa using u1
        obtain ⟨pg, pc, rfl, _, _⟩ := hown2.form (by omega)
        obtain ⟨hb9, hnc9, hcm9, hbg9⟩ := blk_of_own hown2 hpl
        have T2 := keepO Q2 T (by omega)
        obtain ⟨p0, p1⟩ := blk_2 TP2
        obtain ⟨a0, a1, af0, af1⟩ := blk2 T2
        go_wp2_with fail
        have T9 := setB2 (u0 := .slice (some ⟨g, 0, none⟩) n c) (u1 := .slice (some ⟨gh, 0, none⟩) N ch) T2
        obtain ⟨r0, r1, _, _⟩ := blk2 T9
        have hDz := hD.only (r := r) Q2 (by omega)
        have hstz := hst
        rw [HN.out] at hDz hstz
        refine bodyPost_ret (v := .tuple #[.agg #[.slice (some ⟨g, 0, none⟩) n c, .slice (some ⟨gh, 0, none⟩) N ch], .int .i64 t, .slice (some ⟨pg, 0, none⟩) m pc]) (by simp [results, Tryz.results33, go_sem, r0, r1]) rfl ?_
        exact ⟨⟨g, n, c, l⟩, _, hs, t, pg, pc, m, pl, kk + 1, rfl, ht, ((hDz.set (by omega) _).set (by omega) _).mono (by omega), ⟨hs3, hstz⟩, ⟨by omega, hpl, hnc9, hcm9, by omega, blk_only hb9 (((Only.refl w.heap.size _).set (.inl rfl) _).set (.inl rfl) _) (by omega)⟩, by omega, (R.set (by show r < w.heap.size; omega) _).set (by show r < w.heap.size; omega) _, ((P.trans Q2).set (.inr (Nat.le_refl _)) _).set (.inr (Nat.le_refl _)) _⟩
    case pos =>
      have hPtk := fun V => sPt_raw (x1, y1) V
      cases hp : ptB x1 y1
      case false =>
        have X1 : ∀ V, Calls Tryz.prog 21 #[.agg #[.int .i64 x1, .int .i64 y1]] V fun e w' => e = .returned (.bool false) ∧ Below V.heap.size V w' := fun V => by have := hPtk V; rwa [hp] at this
        clear hPtk
        go_wp2_with fail
        refine (X1 _).mono ?_
        rintro e v1 ⟨rfl, J⟩
        have zJ := J.size
        replace R := R.below J
        replace Q := Q.trans (Only.of_below J)
        replace hown := own_below hown J
        replace TP := keep J TP
        clear TA c0 c1 X1 J
        obtain ⟨p0, p1⟩ := blk_2 TP
        go_wp2_with fail
        refine (pick_rd 16 kk a len cap r _ (by omega) (by omega) R).mono ?_
        clear R
        rintro e y1' ⟨u, rfl, ua, ub, R, O⟩
        have Q2 := Q.trans O
        have hown2 := own_only hown O (by omega)
        have TP2 := keepO O TP (by omega)
        have zO := O.size
        have zQ := Q2.size
        clear O p0 p1
        have hu : u = 0 ∨ u = 1 ∨ (u ≠ 0 ∧ u ≠ 1) := by omega
        rcases hu with rfl | rfl | ⟨u0, u1⟩
        · go_wp2_with fail
          refine (l71Pt_any (kk + 1) a len cap r _ (by omega) R).mono ?_
          clear R
          rintro e y2 ⟨x2, y2', kz, rfl, hPB2, hkz, R, O⟩
          have Q3 := Q2.trans O
          have hown3 := own_only hown2 O (by omega)
          have TP3 := keepO O TP2 (by omega)
          have zO2 := O.size
          have zQ3 := Q3.size
          clear O
          have zt := blk_lt TP3
          have e0 := (heap_old y2 (.cells #[.int .i64 x2, .int .i64 y2'] 43) zt).trans TP3
          have T3 := keepO Q3 T (by omega)
          have zt3 := blk_lt T3
          have e3 := (heap_old y2 (.cells #[.int .i64 x2, .int .i64 y2'] 43) zt3).trans T3
          have hob : ∀ j, pv.ownBlock = some j → w3.heap.size ≤ j := fun j e => by have := (hown.lt j e).1; omega
          have hne0 : ∀ b, b < W4.heap.size → some b ≠ pv.ownBlock := fun b hb e => by have := (hown.lt b e.symm).1; omega
          go_wp2_with (at_builtin; refine wpList_append_lies _ rfl _ _ _ rfl W4.heap.size 43 i0' _ 2 16 Tryz.underlying29 hi0 hz0 hz1 hz2 rfl (by omega) _ m _ rfl (hown3.alloc _) ⟨y2.heap.size, 0, none⟩ 1 1 [.int .i64 x2, .int .i64 y2'] rfl rfl (World.news_of_block (cs := #[.int .i64 x2, .int .i64 y2']) (t := 43) (fr := (0, 0)) (heap_alloc_new y2 _)) (by simp [Value.oneCell']) (by omega) (by simp [maxLen]; omega) (by omega) (by simp; omega) (y2.heap.size + 1) (by simp) ?_; intro gg cap' w8 hown1 hgrow hat hlt1; have TP8 := (hgrow.block _ (by simp; omega) (hne0 w3.heap.size (by omega))).trans e0; obtain ⟨p0, p1⟩ := blk_2 TP8; have T8 := (hgrow.block _ (by simp; omega) (hne0 w.heap.size (by omega))).trans e3; obtain ⟨a0, a1, af0, af1⟩ := blk2 T8)
          have Q8 : Only r w3 w8 := (Q3.alloc (.cells #[.int .i64 x2, .int .i64 y2'] 43)).grown hgrow hob
          have R8 := (R.alloc (.cells #[.int .i64 x2, .int .i64 y2'] 43)).grown hgrow (fun j e => by have := (hown.lt j e).1; omega)
          have h9 : w8.ownsRow W4.heap.size 43 2 (.slice (some ⟨gg, 0, none⟩) (m + 1) cap') (m + 1) (ptCells (pl ++ [(x2, y2')])) := by rw [ptCells_snoc]; exact hown1
          obtain ⟨hb9, hnc9, hcm9, hbg9⟩ := blk_of_own h9 (by simp [hpl])
          have T9 := setB2 (u0 := .slice (some ⟨g, 0, none⟩) n c) (u1 := .slice (some ⟨gh, 0, none⟩) N ch) T8
          obtain ⟨r0, r1, _, _⟩ := blk2 T9
          have hDz := hD.only (r := r) Q8 (by omega)
          have hstz := hst
          rw [HN.out] at hDz hstz
          refine bodyPost_ret (v := .tuple #[.agg #[.slice (some ⟨g, 0, none⟩) n c, .slice (some ⟨gh, 0, none⟩) N ch], .int .i64 t, .slice (some ⟨gg, 0, none⟩) (m + 1) cap']) (by simp [results, Tryz.results33, go_sem, r0, r1]) rfl ?_
          exact ⟨⟨g, n, c, l⟩, _, hs, t, gg, cap', (m + 1), pl ++ [(x2, y2')], kz, rfl, ht, ((hDz.set (by omega) _).set (by omega) _).mono (by omega), ⟨hs3, hstz⟩, ⟨by omega, by simp [hpl], hnc9, hcm9, by omega, blk_only hb9 (((Only.refl w.heap.size _).set (.inl rfl) _).set (.inl rfl) _) (by omega)⟩, by omega, (R8.set (by show r < w.heap.size; omega) _).set (by show r < w.heap.size; omega) _, ((P.trans Q8).set (.inr (Nat.le_refl _)) _).set (.inr (Nat.le_refl _)) _⟩
        · have TE := (heap_old y1' (.cells #[] 43) (blk_lt TP2)).trans TP2
          have T2 := keepO Q2 T (by omega)
          have TF := (heap_old y1' (.cells #[] 43) (blk_lt T2)).trans T2
          have hN1 := heap_new y1' (.cells #[] 43)
          have hb9 : PtBlk (y1'.alloc (.cells #[] 43)) y1'.heap.size 0 [] 0 := ⟨#[], hN1, rfl, fun j hj => absurd hj (Nat.not_lt_zero _)⟩
          have Q8 := Q2.alloc (.cells #[] 43)
          have R8 := R.alloc (.cells #[] 43)
          obtain ⟨p0, p1⟩ := blk_2 TE
          obtain ⟨a0, a1, af0, af1⟩ := blk2 TF
          go_wp2_with fail
          have T9 := setB2 (u0 := .slice (some ⟨g, 0, none⟩) n c) (u1 := .slice (some ⟨gh, 0, none⟩) N ch) TF
          obtain ⟨r0, r1, _, _⟩ := blk2 T9
          have hDz := hD.only (r := r) Q8 (by omega)
          have hstz := hst
          rw [HN.out] at hDz hstz
          refine bodyPost_ret (v := .tuple #[.agg #[.slice (some ⟨g, 0, none⟩) n c, .slice (some ⟨gh, 0, none⟩) N ch], .int .i64 t, .slice (some ⟨y1'.heap.size, 0, none⟩) 0 0]) (by simp [results, Tryz.results33, go_sem, r0, r1]) rfl ?_
          exact ⟨⟨g, n, c, l⟩, _, hs, t, y1'.heap.size, 0, 0, [], kk + 1, rfl, ht, ((hDz.set (by omega) _).set (by omega) _).mono (by omega), ⟨hs3, hstz⟩, ⟨by omega, rfl, Nat.le_refl _, by simp [maxLen], by omega, blk_only hb9 (((Only.refl w.heap.size _).set (.inl rfl) _).set (.inl rfl) _) (by omega)⟩, by omega, (R8.set (by show r < w.heap.size; omega) _).set (by show r < w.heap.size; omega) _, ((P.trans Q8).set (.inr (Nat.le_refl _)) _).set (.inr (Nat.le_refl _)) _⟩
        · have u0' : (u == 0) = false := by simpa using u0
          have u1' : (u == 1) = false := by simpa using u1
          obtain ⟨pg, pc, rfl, _, _⟩ := hown2.form (by omega)
          obtain ⟨hb9, hnc9, hcm9, hbg9⟩ := blk_of_own hown2 hpl
          have T2 := keepO Q2 T (by omega)
          obtain ⟨p0, p1⟩ := blk_2 TP2
          obtain ⟨a0, a1, af0, af1⟩ := blk2 T2
          go_wp2_with fail
          have T9 := setB2 (u0 := .slice (some ⟨g, 0, none⟩) n c) (u1 := .slice (some ⟨gh, 0, none⟩) N ch) T2
          obtain ⟨r0, r1, _, _⟩ := blk2 T9
          have hDz := hD.only (r := r) Q2 (by omega)
          have hstz := hst
          rw [HN.out] at hDz hstz
          refine bodyPost_ret (v := .tuple #[.agg #[.slice (some ⟨g, 0, none⟩) n c, .slice (some ⟨gh, 0, none⟩) N ch], .int .i64 t, .slice (some ⟨pg, 0, none⟩) m pc]) (by simp [results, Tryz.results33, go_sem, r0, r1]) rfl ?_
          exact ⟨⟨g, n, c, l⟩, _, hs, t, pg, pc, m, pl, kk + 1, rfl, ht, ((hDz.set (by omega) _).set (by omega) _).mono (by omega), ⟨hs3, hstz⟩, ⟨by omega, hpl, hnc9, hcm9, by omega, blk_only hb9 (((Only.refl w.heap.size _).set (.inl rfl) _).set (.inl rfl) _) (by omega)⟩, by omega, (R.set (by show r < w.heap.size; omega) _).set (by show r < w.heap.size; omega) _, ((P.trans Q2).set (.inr (Nat.le_refl _)) _).set (.inr (Nat.le_refl _)) _⟩
      case true =>
        have X1 : ∀ V, Calls Tryz.prog 21 #[.agg #[.int .i64 x1, .int .i64 y1]] V fun e w' => e = .returned (.bool true) ∧ Below V.heap.size V w' := fun V => by have := hPtk V; rwa [hp] at this
        clear hPtk
        go_wp2_with fail
        refine (X1 _).mono ?_
        rintro e v1 ⟨rfl, J⟩
        have zJ := J.size
        replace R := R.below J
        replace Q := Q.trans (Only.of_below J)
        replace hown := own_below hown J
        replace TP := keep J TP
        replace TA := keep J TA
        clear c0 c1 X1 J
        obtain ⟨c0, c1⟩ := blk_2 TA
        go_wp2_with fail
        refine (l13Steps_ok (x1, y1) hp _).mono ?_
        rintro e v2 ⟨ng, nc, nm, rfl, nm1, nm4, hnl, hng, hnb, J⟩
        have zJ2 := J.size
        replace R := R.below J
        replace Q := Q.trans (Only.of_below J)
        replace hown := own_below hown J
        replace TP := keep J TP
        replace TA := keep J TA
        clear c0 c1 J
        go_wp2_with fail
        refine (pick_rd (nm : Int) kk a len cap r _ (by omega) (by omega) R).mono ?_
        clear R
        rintro e v3 ⟨j, rfl, ja, jb, R, O⟩
        obtain ⟨j, rfl⟩ := Int.eq_ofNat_of_zero_le ja
        have hj : j < nm := by omega
        have zQ1 := Q.size
        replace hnb := blk_only hnb O (by omega)
        replace Q := Q.trans O
        replace hown := own_only hown O (by omega)
        replace TP := keepO O TP (by omega)
        replace TA := keepO O TA (by omega)
        have zO := O.size
        clear O
        obtain ⟨L, hL⟩ : ∃ L, gridP (fourP (x1, y1)) = L := ⟨_, rfl⟩
        have hpt : ptB (ptAt L j).1 (ptAt L j).2 = true := by rw [← hL]; exact gridP_pt (by rw [hnl]; exact hj)
        rw [hL] at hnl hnb
        clear hL
        rcases (hnb.pts' hnl).2 with h0 | ⟨b, off, hbo, hbl, hcs⟩
        · omega
        cases hbo
        obtain ⟨d0, d1⟩ := hcs j hj
        simp only [Nat.zero_add] at d0 d1
        have jc : ((j : Int)) < (nm : Int) := by omega
        obtain ⟨⟨px, py⟩, hpe⟩ : ∃ pp, ptAt L j = pp := ⟨_, rfl⟩
        rw [hpe] at d0 d1 hpt
        dsimp only at d0 d1 hpt
        have hPBn : PB px py := by have := (ptB_iff px py).1 hpt; unfold PB; omega
        obtain ⟨V4, hV4, BV, TB⟩ : ∃ V4, V4 = v3.alloc (.cells #[.int .i64 px, .int .i64 py] 43) ∧ Below v3.heap.size v3 V4 ∧ V4.heap[v3.heap.size]? = some (.cells #[.int .i64 px, .int .i64 py] 43) := ⟨_, rfl, (by repeat (first | exact bw_refl _ | assumption | apply bw_drewN | apply bw_drew | apply bw_alloc | refine bw_set ?_ (by simp) _)), heap_new _ _⟩
        clear hcs hpe
        go_upto_region 8 with fail
        rw [← hV4]
        clear hV4 d0 d1
        have zV := BV.size
        have hPl : Plt V4 (some ⟨g, 0, none⟩) n (some ⟨gh, 0, none⟩) N l (hs.map LoopT.l) := by have h4 := (hD.only (r := r) Q (by omega)).below BV; have e := HN.out; subst e; exact h4.plt
        replace R := R.below BV
        replace Q := Q.trans (Only.of_below BV)
        replace hown := own_below hown BV
        replace TP := keep BV TP
        replace TA := keep BV TA
        clear BV
        obtain ⟨p0, p1⟩ := blk_2 TP
        obtain ⟨c0, c1⟩ := blk_2 TA
        obtain ⟨e0, e1⟩ := blk_2 TB
        obtain ⟨mb, hmb⟩ : ∃ mb, mayV l (hs.map LoopT.l) t (x1, y1) (px, py) = mb := ⟨_, rfl⟩
        have hM := sToolMay_any _ _ n c N ch l (hs.map LoopT.l) t (x1, y1) (px, py) _ hPl
        rw [hmb] at hM
        clear hmb hPl
        go_wp2_with fail
        refine hM.mono ?_
        rintro e v5 ⟨rfl, J⟩
        have zJ5 := J.size
        replace R := R.below J
        replace Q := Q.trans (Only.of_below J)
        replace hown := own_below hown J
        replace TP := keep J TP
        replace TA := keep J TA
        replace TB := keep J TB
        clear p0 p1 c0 c1 e0 e1 hM J
        cases mb
        case false =>
          go_wp2_with fail
          go_roundw
          case rel => exact ⟨_, q - 1, x1, y1, kk + 1, m, pl, rfl, by simp, by omega, hPB1, by omega, by omega, hm1, hpl, hown, R, Q, by omega, TP, TA⟩
          case measure => simp [intOf]; omega
        case true =>
          have zB := blk_lt TB
          have zQ5 := Q.size
          obtain ⟨e0, e1⟩ := blk_2 TB
          obtain ⟨a0, a1, af0, af1⟩ := blk2 TA
          have TA2 := setB2 (u0 := .int .i64 px) (u1 := .int .i64 py) TA
          have TP2 := set_oth (b := w3.heap.size + 1) (i := 1) (v := .int .i64 py) (set_oth (b := w3.heap.size + 1) (i := 0) (v := .int .i64 px) TP (by omega)) (by omega)
          have R2 := (R.set (p := ⟨w3.heap.size + 1, 0, none⟩) (by show r < w3.heap.size + 1; omega) (.int .i64 px)).set (p := ⟨w3.heap.size + 1, 1, none⟩) (by show r < w3.heap.size + 1; omega) (.int .i64 py)
          have Q2 := (Q.set (p := ⟨w3.heap.size + 1, 0, none⟩) (.inr (by show w3.heap.size ≤ w3.heap.size + 1; omega)) (.int .i64 px)).set (p := ⟨w3.heap.size + 1, 1, none⟩) (.inr (by show w3.heap.size ≤ w3.heap.size + 1; omega)) (.int .i64 py)
          have hown2 := own_only' hown (((Only.refl (w3.heap.size + 1) v5).set (p := ⟨w3.heap.size + 1, 0, none⟩) (.inl rfl) (.int .i64 px)).set (p := ⟨w3.heap.size + 1, 1, none⟩) (.inl rfl) (.int .i64 py)) (fun e => by have := (hown.lt _ e).1; omega)
          go_upto_region 10 with fail
          obtain ⟨v6, hv6⟩ : ∃ v6, (v5.setCell ⟨w3.heap.size + 1, 0, none⟩ (.int .i64 px)).setCell ⟨w3.heap.size + 1, 1, none⟩ (.int .i64 py) = v6 := ⟨_, rfl⟩
          have z6' : v6.heap.size = v5.heap.size := by rw [← hv6]; simp [World.setCell]
          rw [hv6] at TA2 TP2 R2 Q2 hown2 ⊢
          clear hv6 a0 a1 af0 af1 e0 e1 TA TP R Q
          obtain ⟨c0, c1⟩ := blk_2 TA2
          have hob : ∀ j, pv.ownBlock = some j → w3.heap.size ≤ j := fun j e => by have := (hown.lt j e).1; omega
          have hne0 : ∀ b, b < W4.heap.size → some b ≠ pv.ownBlock := fun b hb e => by have := (hown.lt b e.symm).1; omega
          have ea := (heap_old v6 (.cells #[.int .i64 px, .int .i64 py] 43) (blk_lt TA2)).trans TA2
          have ep := (heap_old v6 (.cells #[.int .i64 px, .int .i64 py] 43) (blk_lt TP2)).trans TP2
          have z6 : w3.heap.size + 1 < v6.heap.size := blk_lt TA2
          have z7 : W4.heap.size < v6.heap.size := by omega
          clear z6'
          go_wp2_with (at_builtin; refine wpList_append_lies _ rfl _ _ _ rfl W4.heap.size 43 i0' _ 2 16 Tryz.underlying29 hi0 hz0 hz1 hz2 rfl (by omega) _ m _ rfl (hown2.alloc _) ⟨v6.heap.size, 0, none⟩ 1 1 [.int .i64 px, .int .i64 py] rfl rfl (World.news_of_block (cs := #[.int .i64 px, .int .i64 py]) (t := 43) (fr := (0, 0)) (heap_alloc_new v6 _)) (by simp [Value.oneCell']) (by omega) (by simp [maxLen]; omega) (by omega) (by simp; omega) (v6.heap.size + 1) (by simp) ?_; intro gg cap' w8 hown1 hgrow hat hlt1)
          have hs8 := hgrow.size
          simp only [World.size_alloc] at hs8
          go_roundw
          case rel => exact ⟨_, q - 1, px, py, kk + 1, m + 1, pl ++ [(px, py)], rfl, by simp, by omega, hPBn, by omega, by omega, by omega, by simp [hpl], by rw [ptCells_snoc]; exact hown1, (R2.alloc _).grown hgrow (fun j e => by have := hob j e; omega), (Q2.alloc _).grown hgrow hob, by omega, (hgrow.block _ (by simp; omega) (hne0 w3.heap.size (by omega))).trans ep, (hgrow.block _ (by simp; omega) (hne0 (w3.heap.size + 1) (by omega))).trans ea⟩
          case measure => simp [intOf]; omega
set_option maxHeartbeats 1000000 in
theorem drawPathOk_any {a : Option Addr} {len0 cap : Nat} {zs : List Int} (w0 w : World) (h : IsRow .u8 w0 a len0 cap zs) (hb : Below w0.heap.size w0 w) :
    Calls Tryz.prog 13 #[.slice a len0 cap] w fun e w' => ∃ (o : LoopT) (hv : Value) (hs : List LoopT) (t : Int) (pg pc m : Nat) (pl : List P2), e = .returned (.tuple #[.agg #[o.v, hv], .int .i64 t, .slice (some ⟨pg, 0, none⟩) m pc]) ∧ (-1 ≤ t ∧ t ≤ 10) ∧ PlD w.heap.size w' o hv hs ∧ (hs.length ≤ 3 ∧ Seat hv) ∧ (m ≤ 16 ∧ pl.length = m ∧ m ≤ pc ∧ pc ≤ maxLen ∧ PtBlk w' pg pc pl m) ∧ Below w.heap.size w w' := by
  obtain ⟨W, hW, BW, T⟩ : ∃ W, W = w.alloc (.cells #[.slice none 0 0, .slice none 0 0] 32) ∧ Below w.heap.size w W ∧ W.heap[w.heap.size]? = some (.cells #[.slice none 0 0, .slice none 0 0] 32 (0, 0)) := ⟨_, rfl, (by repeat (first | exact bw_refl _ | assumption | apply bw_drewN | apply bw_drew | apply bw_alloc | refine bw_set ?_ (by simp) _)), heap_new _ _⟩
  go_enter Tryz.func13, Tryz.ntmps13
  go_wp2_with fail
  rw [← hW]
  clear hW
  refine (open_rd w0 _ h (bw_trans hb BW)).mono ?_
  rintro e w1 ⟨len, rfl, R, hb1⟩
  have zT := blk_lt T
  replace T := keep hb1 T
  have K := bw_trans BW hb1
  have z1 := hb1.size
  have zr := R.lt
  clear hb1 BW
  go_wp2_with fail
  refine (l72Walk_any 0 a len cap _ _ (by omega) R).mono ?_
  clear R
  rintro e w3 ⟨⟨g, n, c, l⟩, hv, hs, t, pg, pc, m, pl, k2, he, ht, hD, ⟨hs3, hst⟩, ⟨p1, p2, p3, p4, p5, p6⟩, hk2, R, O⟩
  obtain rfl : e = .returned (.tuple #[.agg #[.slice (some ⟨g, 0, none⟩) n c, hv], .int .i64 t, .slice (some ⟨pg, 0, none⟩) m pc]) := he
  replace T := keepO O T (by omega)
  replace K := K.trans (O.below' (B := w.heap.size) (by omega) (by have := K.size; omega))
  have z3 := O.size
  clear O
  obtain ⟨gh, ch, rfl⟩ : ∃ gh ch, hv = .slice (some ⟨gh, 0, none⟩) hs.length ch := own_seat hD.2.2.1 hst
  obtain ⟨N, hNN⟩ : ∃ N, hs.length = N := ⟨_, rfl⟩
  rw [hNN]
  have HN : Hid (hs.length = N) := hNN
  clear hNN
  obtain ⟨a0, a1, af0, af1⟩ := blk2 T
  go_wp2_with fail
  have T9 := setB2 (u0 := .slice (some ⟨g, 0, none⟩) n c) (u1 := .slice (some ⟨gh, 0, none⟩) N ch) T
  obtain ⟨r0, r1, _, _⟩ := blk2 T9
  rw [HN.out] at hD hst
  refine bodyPost_ret (v := .tuple #[.agg #[.slice (some ⟨g, 0, none⟩) n c, .slice (some ⟨gh, 0, none⟩) N ch], .int .i64 t, .slice (some ⟨pg, 0, none⟩) m pc]) (by simp [results, Tryz.results13, go_sem, r0, r1]) rfl ?_
  exact ⟨⟨g, n, c, l⟩, _, hs, t, pg, pc, m, pl, rfl, ht, ((hD.set (by omega) _).set (by omega) _).mono (by omega), ⟨hs3, hst⟩, ⟨p1, p2, p3, p4, blk_only p6 (((Only.refl w.heap.size _).set (.inl rfl) _).set (.inl rfl) _) (by omega)⟩, (K.setCell (p := ⟨w.heap.size, 0, none⟩) (Nat.le_refl _) _).setCell (p := ⟨w.heap.size, 1, none⟩) (Nat.le_refl _) _⟩
end Go.Proofs.YtkncejcpeejkkaaGreatDoor
namespace Go.Proofs.YtkncejcpeejkkaaGreatDoor
open Go.RowKit Go.Sort

/-- The greatest up to k that fits; 0, if none does. -/
def mostF (F : Int → Bool) : Nat → Int
  | 0 => 0
  | k + 1 => if F ((k : Int) + 1) then (k : Int) + 1 else mostF F k
theorem mostF_bd (F : Int → Bool) (k : Nat) : 0 ≤ mostF F k ∧ mostF F k ≤ k := by
  induction k with
  | zero => exact ⟨Int.le_refl _, Int.le_refl _⟩
  | succ k ih => unfold mostF; split <;> omega
theorem mostF_ge {F : Int → Bool} {k : Nat} {r : Int} (h1 : 1 ≤ r) (h2 : r ≤ k) (hF : F r = true) : r ≤ mostF F k := by
  induction k with
  | zero => omega
  | succ k ih =>
    unfold mostF
    by_cases e : r = (k : Int) + 1
    · subst e; rw [if_pos hF]; exact Int.le_refl _
    · have := ih (by omega)
      split <;> omega
theorem mostF_fit {F : Int → Bool} {k : Nat} (h : 1 ≤ mostF F k) : F (mostF F k) = true := by
  induction k with
  | zero => unfold mostF at h; omega
  | succ k ih =>
    unfold mostF at h ⊢
    split
    · rename_i hF; exact hF
    · rename_i hF; rw [if_neg hF] at h; exact ih h
theorem mostF_none {F : Int → Bool} {k : Nat} (h : ∀ r : Int, 1 ≤ r → r ≤ (k : Int) → F r = false) : mostF F k = 0 := by
  have b := mostF_bd F k
  by_cases h1 : 1 ≤ mostF F k
  · have := mostF_fit h1
    rw [h _ h1 b.2] at this; cases this
  · omega
theorem mostF_min {F : Int → Bool} {k : Nat} {m : Int} (hm : 0 ≤ m) (h : ∀ r : Int, 1 ≤ r → r ≤ (k : Int) → F r = decide (r ≤ m)) : mostF F k = min m k := by
  have b := mostF_bd F k
  have up : mostF F k ≤ m := by
    by_cases h1 : 1 ≤ mostF F k
    · have := mostF_fit h1
      rw [h _ h1 b.2] at this; simpa using this
    · omega
  have dn : min m k ≤ mostF F k := by
    by_cases h1 : 1 ≤ min m (k : Int)
    · exact mostF_ge h1 (by omega) (by rw [h _ h1 (by omega)]; simp; omega)
    · omega
  omega
theorem sp_le' {r : Int} {f g : Int × Int} (hr : rV r = true) (hf : OkF f) (hg : OkF g) (h : LeF f g) (hs : spB r f = true) : spB r g = true := by
  unfold spB at *
  rw [decide_eq_true_eq] at *
  have o1 : OkF (r, 1) := ok_whole hr
  have := LeF.trans o1 hf hg (f := (r, 1)) (by unfold LeF; dsimp only; omega) h
  unfold LeF at this
  dsimp only at this
  omega
/-- A smaller tool fits where a larger one does. -/
theorem sp_less {r q : Int} {f : Int × Int} (hf : OkF f) (h : q ≤ r) (hs : spB r f = true) : spB q f = true := by
  unfold spB at *
  rw [decide_eq_true_eq] at *
  have := Int.mul_le_mul_of_nonneg_right h (show 0 ≤ f.2 by have := hf.pos; omega)
  omega
theorem fitV_less {o : List P2} {hs : List (List P2)} {r q : Int} {p : P2} (h1 : 1 ≤ q) (h2 : q ≤ r) (h : fitV o hs r p = true) : fitV o hs q p = true := by
  have hr : rV r = true := by unfold fitV at h; cases e : rV r <;> rw [e] at h <;> simp at h ⊢
  have hv : plV o hs = true := by unfold fitV at h; rw [hr] at h; cases e : plV o hs <;> rw [e] at h <;> simp at h ⊢
  have hp : ptB p.1 p.2 = true := by unfold fitV at h; rw [hr, hv] at h; cases e : ptB p.1 p.2 <;> rw [e] at h <;> simp at h ⊢
  have hq : rV q = true := by rw [rV_iff] at hr ⊢; omega
  rw [fitV_ok hr hv hp] at h
  rw [fitV_ok hq hv hp]
  unfold fitI at h ⊢
  rw [Bool.and_eq_true] at h ⊢
  exact ⟨h.1, sp_less (plFI_ok hv hp) h2 h.2⟩
/-- Without holes it fits, too. -/
theorem fitV_bare {o : List P2} {hs : List (List P2)} {r : Int} {p : P2} (h : fitV o hs r p = true) : fitV o [] r p = true := by
  have hr : rV r = true := by unfold fitV at h; cases e : rV r <;> rw [e] at h <;> simp at h ⊢
  have hv : plV o hs = true := by unfold fitV at h; rw [hr] at h; cases e : plV o hs <;> rw [e] at h <;> simp at h ⊢
  have hp : ptB p.1 p.2 = true := by unfold fitV at h; rw [hr, hv] at h; cases e : ptB p.1 p.2 <;> rw [e] at h <;> simp at h ⊢
  have L := (plV_iff _ _).1 hv
  have hv0 : plV o [] = true := okV_plV L.out
  rw [fitV_ok hr hv hp] at h
  rw [fitV_ok hr hv0 hp]
  unfold fitI at h ⊢
  rw [Bool.and_eq_true, decide_eq_true_eq] at h ⊢
  have hi := (plI_one hv p).1 h.1
  refine ⟨(plI_one hv0 p).2 ⟨hi.1, fun x hx => by simp at hx⟩, ?_⟩
  have m0 := plFI_least hv0 (p := p) hp
  obtain ⟨s, hs', e⟩ := List.mem_map.1 m0.mem
  have hin : s ∈ plE o hs := by rw [plE_eq hv]; rw [plE_eq hv0] at hs'; simp at hs'; exact List.mem_append_left _ hs'
  exact sp_le' hr (plFI_ok hv hp) (plFI_ok hv0 hp) (by rw [← e]; exact (plFI_least hv hp).le _ (List.mem_map.2 ⟨s, hin, rfl⟩)) h.2
end Go.Proofs.YtkncejcpeejkkaaGreatDoor
namespace Go.Proofs.YtkncejcpeejkkaaGreatDoor
open Go.RowKit Go.Sort

theorem nearI_back {p q : P2} {r : Int} {a : P2} (hw : sgP p q = true) (ha : ptB a.1 a.2 = true) : nearI (q, p) r a = nearI (p, q) r a := by
  have hw' : sgP q p = true := by rw [sgP_back]; exact hw
  rw [near_far (s := (q, p)) hw' ha, near_far (s := (p, q)) hw ha, farS_of (s := (q, p)) hw' ha, farS_of (s := (p, q)) hw ha]
  dsimp only
  rw [far_back _ _ (sg_parts hw).2.2]
theorem hitI_back {p q : P2} {r : Int} {s : P2 × P2} (hw : sgP p q = true) (hs : sgP s.1 s.2 = true) : hitI q p r s = hitI p q r s := by
  unfold hitI
  rw [meetP_back1, nearI_back hw (sgP_pt hs).1, nearI_back hw (sgP_pt hs).2]
theorem dt_beside (p q : P2) : dt q.1 q.2 p.1 p.2 p.1 p.2 = dt p.1 p.2 q.1 q.2 q.1 q.2 := by
  unfold dt
  have e1 : (p.1 - q.1) * (p.1 - q.1) = (q.1 - p.1) * (q.1 - p.1) := by rw [← Int.neg_sub q.1 p.1, Int.neg_mul_neg]
  have e2 : (p.2 - q.2) * (p.2 - q.2) = (q.2 - p.2) * (q.2 - p.2) := by rw [← Int.neg_sub q.2 p.2, Int.neg_mul_neg]
  rw [e1, e2]
theorem mayI_back {o : List P2} {hs : List (List P2)} {r : Int} {p q : P2} (hr : rV r = true) (hv : plV o hs = true) (hp : ptB p.1 p.2 = true) (hq : ptB q.1 q.2 = true) (hd : dt p.1 p.2 q.1 q.2 q.1 q.2 = 1) : mayI o hs r q p = mayI o hs r p q := by
  rw [mayI_hit hr hv hp hq hd, mayI_hit hr hv hq hp ((dt_beside p q).trans hd)]
  have hw := beside_sg hp hq hd
  have e : ((plE o hs).all fun s => !hitI q p r s) = ((plE o hs).all fun s => !hitI p q r s) := by
    rw [Bool.eq_iff_iff, List.all_eq_true, List.all_eq_true]
    refine ⟨fun h s hs' => ?_, fun h s hs' => ?_⟩
    · rw [← hitI_back hw (plE_ok hv hs')]; exact h s hs'
    · rw [hitI_back hw (plE_ok hv hs')]; exact h s hs'
  rw [e]
  cases fitI o hs r p <;> cases fitI o hs r q <;> rfl
/-- Where it goes it goes back. -/
theorem mayV_back (o : List P2) (hs : List (List P2)) (r : Int) (p q : P2) : mayV o hs r q p = mayV o hs r p q := by
  unfold mayV
  cases hr : rV r
  · rfl
  cases hv : plV o hs
  · rfl
  cases hp : ptB p.1 p.2
  · cases ptB q.1 q.2 <;> rfl
  cases hq : ptB q.1 q.2
  · rfl
  rw [dt_beside]
  by_cases hd : dt p.1 p.2 q.1 q.2 q.1 q.2 = 1
  · rw [mayI_back hr hv hp hq hd]
  · rw [decide_eq_false hd]; rfl
theorem mayV_parts {o : List P2} {hs : List (List P2)} {r : Int} {p q : P2} (h : mayV o hs r p q = true) : rV r = true ∧ plV o hs = true ∧ ptB p.1 p.2 = true ∧ ptB q.1 q.2 = true ∧ dt p.1 p.2 q.1 q.2 q.1 q.2 = 1 ∧ mayI o hs r p q = true := by
  unfold mayV at h
  simp only [Bool.and_eq_true, decide_eq_true_eq] at h
  obtain ⟨⟨⟨⟨⟨h1, h2⟩, h3⟩, h4⟩, h5⟩, h6⟩ := h
  exact ⟨h1, h2, h3, h4, h5, h6⟩
theorem mayV_fit {o : List P2} {hs : List (List P2)} {r : Int} {p q : P2} (h : mayV o hs r p q = true) : fitV o hs r p = true ∧ fitV o hs r q = true := by
  obtain ⟨hr, hv, hp, hq, hd, hm⟩ := mayV_parts h
  unfold mayI at hm
  simp only [Bool.and_eq_true] at hm
  exact ⟨by rw [fitV_ok hr hv hp]; exact hm.1.1, by rw [fitV_ok hr hv hq]; exact hm.1.2⟩
/-- A smaller tool goes where a larger one does. -/
theorem mayV_less {o : List P2} {hs : List (List P2)} {r k : Int} {p q : P2} (h1 : 1 ≤ k) (h2 : k ≤ r) (h : mayV o hs r p q = true) : mayV o hs k p q = true := by
  obtain ⟨hr, hv, hp, hq, hd, hm⟩ := mayV_parts h
  have hf := mayV_fit h
  have hk : rV k = true := by rw [rV_iff] at hr ⊢; omega
  have f1 := fitV_less h1 h2 hf.1
  have f2 := fitV_less h1 h2 hf.2
  rw [fitV_ok hk hv hp] at f1
  rw [fitV_ok hk hv hq] at f2
  have hw := beside_sg hp hq hd
  unfold mayI at hm
  simp only [Bool.and_eq_true] at hm
  have ha := hm.2
  rw [List.all_eq_true] at ha
  unfold mayV
  rw [hk, hv, hp, hq, decide_eq_true hd]
  unfold mayI
  rw [f1, f2]
  simp only [Bool.true_and]
  rw [List.all_eq_true]
  intro s hs'
  have h9 := ha s hs'
  have hs2 := plE_ok hv hs'
  have e0 : apartV p.1 p.2 q.1 q.2 s.1.1 s.1.2 s.2.1 s.2.2 = apart p.1 p.2 q.1 q.2 s.1.1 s.1.2 s.2.1 s.2.2 := by
    unfold apartV; rw [show sgB p.1 p.2 q.1 q.2 = true from hw, show sgB s.1.1 s.1.2 s.2.1 s.2.2 = true from hs2]; rfl
  have hok : OkF (apart p.1 p.2 q.1 q.2 s.1.1 s.1.2 s.2.1 s.2.2) := apart_ok hw hs2
  unfold clB at h9 ⊢
  rw [e0] at h9 ⊢
  rw [sp_cmp hr hok] at h9
  rw [sp_cmp hk hok]
  exact sp_less hok h2 h9
end Go.Proofs.YtkncejcpeejkkaaGreatDoor
namespace Go.Proofs.YtkncejcpeejkkaaGreatDoor
open Go.RowKit Go.Sort

/-- It may go along, where the tool is one on a plate. -/
def pathT (o : List P2) (hs : List (List P2)) (r : Int) (l : List P2) : Bool := decide (1 ≤ l.length ∧ l.length ≤ 400) && ptB (ptAt l 0).1 (ptAt l 0).2 && fitI o hs r (ptAt l 0) && (List.range (l.length - 1)).all fun i => mayT o hs r (ptAt l i) (ptAt l (i + 1))
/-- It may go along. -/
def pathV (o : List P2) (hs : List (List P2)) (r : Int) (l : List P2) : Bool := rV r && plV o hs && pathT o hs r l
theorem pathT_iff {o : List P2} {hs : List (List P2)} {r : Int} {l : List P2} : pathT o hs r l = true ↔ (1 ≤ l.length ∧ l.length ≤ 400) ∧ ptB (ptAt l 0).1 (ptAt l 0).2 = true ∧ fitI o hs r (ptAt l 0) = true ∧ ∀ i, i + 1 < l.length → mayT o hs r (ptAt l i) (ptAt l (i + 1)) = true := by
  unfold pathT
  simp only [Bool.and_eq_true, decide_eq_true_eq, List.all_eq_true, List.mem_range]
  constructor
  · rintro ⟨⟨⟨h1, h2⟩, h3⟩, h4⟩; exact ⟨h1, h2, h3, fun i hi => h4 i (by omega)⟩
  · rintro ⟨h1, h2, h3, h4⟩; exact ⟨⟨⟨h1, h2⟩, h3⟩, fun i hi => h4 i (by omega)⟩
theorem pathT_len {o : List P2} {hs : List (List P2)} {r : Int} {l : List P2} (h : ¬ (1 ≤ l.length ∧ l.length ≤ 400)) : pathT o hs r l = false := by
  rw [Bool.eq_false_iff]; intro hc; exact h (pathT_iff.1 hc).1
theorem pathT_pt {o : List P2} {hs : List (List P2)} {r : Int} {l : List P2} (h : ptB (ptAt l 0).1 (ptAt l 0).2 = false) : pathT o hs r l = false := by
  rw [Bool.eq_false_iff]; intro hc; rw [(pathT_iff.1 hc).2.1] at h; cases h
theorem pathT_fit {o : List P2} {hs : List (List P2)} {r : Int} {l : List P2} (h : fitI o hs r (ptAt l 0) = false) : pathT o hs r l = false := by
  rw [Bool.eq_false_iff]; intro hc; rw [(pathT_iff.1 hc).2.2.1] at h; cases h
theorem pathT_step {o : List P2} {hs : List (List P2)} {r : Int} {l : List P2} {i : Nat} (hi : i + 1 < l.length) (h : mayT o hs r (ptAt l i) (ptAt l (i + 1)) = false) : pathT o hs r l = false := by
  rw [Bool.eq_false_iff]; intro hc; rw [(pathT_iff.1 hc).2.2.2 i hi] at h; cases h
theorem pathV_of {o : List P2} {hs : List (List P2)} {r : Int} {l : List P2} (hr : rV r = true) (hv : plV o hs = true) : pathV o hs r l = pathT o hs r l := by unfold pathV; rw [hr, hv]; rfl
theorem mayT_parts {o : List P2} {hs : List (List P2)} {r : Int} {p q : P2} (h : mayT o hs r p q = true) : ptB p.1 p.2 = true ∧ ptB q.1 q.2 = true ∧ dt p.1 p.2 q.1 q.2 q.1 q.2 = 1 ∧ mayI o hs r p q = true := by
  unfold mayT at h
  simp only [Bool.and_eq_true, decide_eq_true_eq] at h
  obtain ⟨⟨⟨h1, h2⟩, h3⟩, h4⟩ := h
  exact ⟨h1, h2, h3, h4⟩
/-- All points of a path are of the grid. -/
theorem pathT_ok {o : List P2} {hs : List (List P2)} {r : Int} {l : List P2} (h : pathT o hs r l = true) {i : Nat} (hi : i < l.length) : ptB (ptAt l i).1 (ptAt l i).2 = true := by
  obtain ⟨_, h0, _, hs'⟩ := pathT_iff.1 h
  cases i with
  | zero => exact h0
  | succ k => exact (mayT_parts (hs' k hi)).2.1
theorem mayI_fits {o : List P2} {hs : List (List P2)} {r : Int} {p q : P2} (h : mayI o hs r p q = true) : fitI o hs r p = true ∧ fitI o hs r q = true := by
  unfold mayI at h; simp only [Bool.and_eq_true] at h; exact h.1
theorem pathT_fits {o : List P2} {hs : List (List P2)} {r : Int} {l : List P2} (h : pathT o hs r l = true) {i : Nat} (hi : i < l.length) : fitI o hs r (ptAt l i) = true := by
  obtain ⟨_, _, h0, hs'⟩ := pathT_iff.1 h
  cases i with
  | zero => exact h0
  | succ k => exact (mayI_fits (mayT_parts (hs' k hi)).2.2.2).2
theorem ptAt_rev {l : List P2} {i : Nat} (h : i < l.length) : ptAt l.reverse i = ptAt l (l.length - 1 - i) := by
  unfold ptAt; rw [List.getElem?_reverse h]
theorem mayT_back {o : List P2} {hs : List (List P2)} {r : Int} {p q : P2} (hr : rV r = true) (hv : plV o hs = true) : mayT o hs r q p = mayT o hs r p q := by
  rw [← mayV_of hr hv, ← mayV_of hr hv]; exact mayV_back o hs r p q
theorem pathT_rev1 {o : List P2} {hs : List (List P2)} {r : Int} {l : List P2} (hr : rV r = true) (hv : plV o hs = true) (h : pathT o hs r l = true) : pathT o hs r l.reverse = true := by
  have hl := (pathT_iff.1 h).1
  rw [pathT_iff, List.length_reverse]
  refine ⟨hl, ?_, ?_, fun i hi => ?_⟩
  · rw [ptAt_rev (by omega)]; exact pathT_ok h (by omega)
  · rw [ptAt_rev (by omega)]; exact pathT_fits h (by omega)
  · rw [ptAt_rev (by omega), ptAt_rev (by omega)]
    have := (pathT_iff.1 h).2.2.2 (l.length - 1 - (i + 1)) (by omega)
    rw [show l.length - 1 - (i + 1) + 1 = l.length - 1 - i by omega] at this
    rw [mayT_back hr hv]; exact this
/-- The other way about it is a path just if it is one. -/
theorem pathV_rev (o : List P2) (hs : List (List P2)) (r : Int) (l : List P2) : pathV o hs r l.reverse = pathV o hs r l := by
  cases hr : rV r
  · unfold pathV; rw [hr]; rfl
  cases hv : plV o hs
  · unfold pathV; rw [hr, hv]; rfl
  rw [pathV_of hr hv, pathV_of hr hv, Bool.eq_iff_iff]
  refine ⟨fun h => ?_, pathT_rev1 hr hv⟩
  have := pathT_rev1 hr hv h
  rwa [List.reverse_reverse] at this
theorem pathV_parts {o : List P2} {hs : List (List P2)} {r : Int} {l : List P2} (h : pathV o hs r l = true) : rV r = true ∧ plV o hs = true ∧ pathT o hs r l = true := by
  unfold pathV at h; simp only [Bool.and_eq_true] at h; exact ⟨h.1.1, h.1.2, h.2⟩
/-- A smaller tool goes along, too. -/
theorem pathV_less {o : List P2} {hs : List (List P2)} {r k : Int} {l : List P2} (h1 : 1 ≤ k) (h2 : k ≤ r) (h : pathV o hs r l = true) : pathV o hs k l = true := by
  obtain ⟨hr, hv, ht⟩ := pathV_parts h
  have hk : rV k = true := by rw [rV_iff] at hr ⊢; omega
  obtain ⟨hl, h0, hf, hst⟩ := pathT_iff.1 ht
  rw [pathV_of hk hv, pathT_iff]
  refine ⟨hl, h0, ?_, fun i hi => ?_⟩
  · have f : fitV o hs r (ptAt l 0) = true := by rw [fitV_ok hr hv h0]; exact hf
    have := fitV_less h1 h2 f
    rwa [fitV_ok hk hv h0] at this
  · have m := hst i hi
    rw [← mayV_of hr hv] at m
    have := mayV_less h1 h2 m
    rwa [mayV_of hk hv] at this
/-- A path by its steps, each asked of the whole plate. -/
theorem pathV_steps {o : List P2} {hs : List (List P2)} {r : Int} {l : List P2} (hl : 1 ≤ l.length) (h4 : l.length ≤ 400) : pathV o hs r l = true ↔ fitV o hs r (ptAt l 0) = true ∧ ∀ i, i + 1 < l.length → mayV o hs r (ptAt l i) (ptAt l (i + 1)) = true := by
  constructor
  · intro h
    obtain ⟨hr, hv, ht⟩ := pathV_parts h
    obtain ⟨_, h0, hf, hst⟩ := pathT_iff.1 ht
    exact ⟨by rw [fitV_ok hr hv h0]; exact hf, fun i hi => by rw [mayV_of hr hv]; exact hst i hi⟩
  · rintro ⟨h0, hst⟩
    have h0' := h0
    unfold fitV at h0'
    simp only [Bool.and_eq_true] at h0'
    obtain ⟨⟨⟨hr, hv⟩, hp⟩, hf⟩ := h0'
    rw [pathV_of hr hv, pathT_iff]
    exact ⟨⟨hl, h4⟩, hp, hf, fun i hi => by rw [← mayV_of hr hv]; exact hst i hi⟩
end Go.Proofs.YtkncejcpeejkkaaGreatDoor
namespace Go.Proofs.YtkncejcpeejkkaaGreatDoor
open Go.RowKit Go.Sort

set_option maxRecDepth 100000 in
set_option maxHeartbeats 4000000 in
theorem pathOk_any (a ah : Option Addr) (la ca nh ch : Nat) (o : List P2) (hs : List (List P2)) (r : Int) (ap : Option Addr) (np cp : Nat) (l : List P2) (hcp : np ≤ cp) (ad : Addr) (w : World) (h0 : Sent ad w) (h : Plt w a la ah nh o hs) (hP : Pts w.heap.size w ap np l) :
    Calls Tryz.prog 10 #[.agg #[.slice a la ca, .slice ah nh ch], .int .i64 r, .slice ap np cp] w fun e W' => e = .returned (.bool (pathV o hs r l)) ∧ Below w.heap.size w W' := by
  obtain ⟨W, hW, BW, TP⟩ : ∃ W, W = w.alloc (.cells #[.slice a la ca, .slice ah nh ch] 32) ∧ Below w.heap.size w W ∧ W.heap[w.heap.size]? = some (.cells #[.slice a la ca, .slice ah nh ch] 32 (0, 0)) := ⟨_, rfl, (by repeat (first | exact bw_refl _ | assumption | apply bw_drewN | apply bw_drew | apply bw_alloc | refine bw_set ?_ (by simp) _)), heap_new _ _⟩
  have hT := toolOn_any a ah la ca nh ch o hs r ad W (h0.below BW) (h.below BW)
  have zB := BW.size
  obtain ⟨t0, t1⟩ := blk_2 TP
  cases hrv : rV r && plV o hs
  · have e1 : Hid (pathV o hs r l = false) := by change _ = _; unfold pathV; rw [hrv]; rfl
    rw [hrv] at hT
    go_enter Tryz.func10, Tryz.ntmps10
    go_upto_region 1 with fail
    rw [← hW]
    clear hW
    go_wp2_with fail
    refine hT.mono ?_
    rintro e w1 ⟨⟨qq, n, d, rfl, -⟩, J⟩
    obtain ⟨W1, hW1, B1, F⟩ : ∃ W1, W1 = w1.alloc (.cells #[.pointer qq, .int .i64 n, .int .i64 d] 63) ∧ Below w1.heap.size w1 W1 ∧ W1.heap[w1.heap.size]? = some (.cells #[.pointer qq, .int .i64 n, .int .i64 d] 63 (0, 0)) := ⟨_, rfl, (by repeat (first | exact bw_refl _ | assumption | apply bw_drewN | apply bw_drew | apply bw_alloc | refine bw_set ?_ (by simp) _)), heap_new _ _⟩
    go_upto_region 2 with fail
    rw [← hW1]
    clear hW1
    go_wp2_with fail
    go_ret
    exact ⟨by rw [e1.out]; rfl, bw_trans (bw_trans BW J) B1⟩
  rw [hrv] at hT
  rw [Bool.and_eq_true] at hrv
  obtain ⟨hr, hv⟩ := hrv
  rw [pathV_of hr hv]
  go_enter Tryz.func10, Tryz.ntmps10
  go_upto_region 1 with fail
  rw [← hW]
  clear hW
  go_wp2_with fail
  refine hT.mono ?_
  rintro e w1 ⟨⟨qq, n, d, rfl, hR0⟩, J⟩
  obtain ⟨rfl, rfl, b, xs, rfl, hR, hx⟩ := hR0 rfl
  clear hR0
  obtain ⟨W1, hW1, B1, F⟩ : ∃ W1, W1 = w1.alloc (.cells #[.pointer (some ⟨b, 0, none⟩), .int .i64 n, .int .i64 1] 63) ∧ Below w1.heap.size w1 W1 ∧ W1.heap[w1.heap.size]? = some (.cells #[.pointer (some ⟨b, 0, none⟩), .int .i64 n, .int .i64 1] 63 (0, 0)) := ⟨_, rfl, (by repeat (first | exact bw_refl _ | assumption | apply bw_drewN | apply bw_drew | apply bw_alloc | refine bw_set ?_ (by simp) _)), heap_new _ _⟩
  have K := bw_trans J B1
  have zJ := J.size
  have zB1 := B1.size
  replace hR := hR.below B1 (by omega)
  replace K := bw_trans BW K
  replace hP := (hP.below K).grow (show w.heap.size ≤ W1.heap.size by omega)
  have hsW := h0.below K
  replace hR : RingL W1.heap.size W1 (some ⟨b, 0, none⟩) (⟨a, la, ca, o⟩ :: xs) := hR.grow (by omega)
  clear t0 t1 J B1 hT TP h
  go_upto_region 2 with fail
  rw [← hW1]
  clear hW1
  obtain ⟨hlen, hP⟩ := hP
  have HL : Hid (l.length = np) := hlen
  by_cases c1 : np < 1
  · have e1 : Hid (pathT o hs n l = false) := pathT_len (by rw [hlen]; omega)
    have i1 : (np : Int) < 1 := by omega
    clear hP hlen
    go_wp2_with fail
    go_ret
    exact ⟨by rw [e1.out]; rfl, K⟩
  by_cases c4 : 400 < np
  · have e1 : Hid (pathT o hs n l = false) := pathT_len (by rw [hlen]; omega)
    have i1 : ¬ (np : Int) < 1 := by omega
    have i2 : (400 : Int) < (np : Int) := by omega
    clear hP hlen
    go_wp2_with fail
    go_ret
    exact ⟨by rw [e1.out]; rfl, K⟩
  have i1 : ¬ (np : Int) < 1 := by omega
  have i2 : ¬ (400 : Int) < (np : Int) := by omega
  have i3 : (0 : Int) < (np : Int) := by omega
  rcases hP with hz | ⟨g, off, rfl, hg, hc⟩
  · omega
  have HC : Hid (∀ j, j < np → W1.cell? ⟨g, off + j * 2, none⟩ = some (.int .i64 (ptAt l j).1) ∧ W1.cell? ⟨g, off + j * 2 + 1, none⟩ = some (.int .i64 (ptAt l j).2)) := hc
  obtain ⟨d0, d1⟩ := hc 0 (by omega)
  rw [Nat.zero_mul, Nat.add_zero] at d0 d1
  clear hc hlen
  go_upto_region 4 with fail
  have HP0 := fun V => pt_raw (ptAt l 0) V
  have q0 := cell_regrown d0
  have q1 := cell_regrown d1
  obtain ⟨f0, f1, f2⟩ := reg_3 F
  cases hp : ptB (ptAt l 0).1 (ptAt l 0).2
  · have e1 : Hid (pathT o hs n l = false) := pathT_pt hp
    have X1 : Hid (∀ w, Calls Tryz.prog 28 #[.agg #[.int .i64 (ptAt l 0).1, .int .i64 (ptAt l 0).2]] w fun e w' => e = .returned (.bool false) ∧ Below w.heap.size w w') := fun w => by have := HP0 w; rwa [hp] at this
    clear HP0
    refine wp_region_quiet_below (by kernel_rfl) (by kernel_rfl) ?_
    repeat (first | go_big_quiet_step (first | (go_at_call 28; with_reducible exact Calls.regrown_of (X1.out _))))
    refine wpQuiet_nil ?_
    intro _ hw'
    obtain ⟨⟨dq, osq⟩, hw''⟩ := hw'
    subst hw''
    have J := below_regrown W1 dq osq
    generalize grow (redrawn W1 dq) osq = v1 at J ⊢
    go_wp2_with fail
    go_ret
    exact ⟨by rw [e1.out]; rfl, bw_trans K J⟩
  have X1 : Hid (∀ w, Calls Tryz.prog 28 #[.agg #[.int .i64 (ptAt l 0).1, .int .i64 (ptAt l 0).2]] w fun e w' => e = .returned (.bool true) ∧ Below w.heap.size w w') := fun w => by have := HP0 w; rwa [hp] at this
  clear HP0
  have hF := fun d os => fits_any b ⟨a, la, ca, o⟩ xs hs n (ptAt l 0) ad (grow (redrawn W1 d) os) (hsW.below (below_regrown W1 d os)) ((hR.below (below_regrown W1 d os) (Nat.le_refl _)).grow (below_regrown W1 d os).size) hx hv hr hp
  cases hf : fitI o hs n (ptAt l 0)
  · have e1 : Hid (pathT o hs n l = false) := pathT_fit hf
    have X2 : Hid (∀ d os, Calls Tryz.prog 29 #[.agg #[.pointer (some ⟨b, 0, none⟩), .int .i64 n, .int .i64 1], .agg #[.int .i64 (ptAt l 0).1, .int .i64 (ptAt l 0).2]] (grow (redrawn W1 d) os) fun e w' => e = .returned (.bool false) ∧ Below (grow (redrawn W1 d) os).heap.size (grow (redrawn W1 d) os) w') := fun d os => by have := hF d os; dsimp only at this; rwa [hf] at this
    clear hF
    refine wp_region_quiet_below (by kernel_rfl) (by kernel_rfl) ?_
    repeat (first | go_big_quiet_step (first | (go_at_call 28; with_reducible exact Calls.regrown_of (X1.out _)) | (go_at_call 29; with_reducible exact Calls.regrown_of (X2.out _ _))))
    refine wpQuiet_nil ?_
    intro _ hw'
    obtain ⟨⟨dq, osq⟩, hw''⟩ := hw'
    subst hw''
    have J := below_regrown W1 dq osq
    generalize grow (redrawn W1 dq) osq = v1 at J ⊢
    go_wp2_with fail
    go_ret
    exact ⟨by rw [e1.out]; rfl, bw_trans K J⟩
  have X2 : Hid (∀ d os, Calls Tryz.prog 29 #[.agg #[.pointer (some ⟨b, 0, none⟩), .int .i64 n, .int .i64 1], .agg #[.int .i64 (ptAt l 0).1, .int .i64 (ptAt l 0).2]] (grow (redrawn W1 d) os) fun e w' => e = .returned (.bool true) ∧ Below (grow (redrawn W1 d) os).heap.size (grow (redrawn W1 d) os) w') := fun d os => by have := hF d os; dsimp only at this; rwa [hf] at this
  clear hF
  refine wp_region_quiet_below (by kernel_rfl) (by kernel_rfl) ?_
  repeat (first | go_big_quiet_step (first | (go_at_call 28; with_reducible exact Calls.regrown_of (X1.out _)) | (go_at_call 29; with_reducible exact Calls.regrown_of (X2.out _ _))))
  refine wpQuiet_nil ?_
  intro _ hw'
  obtain ⟨⟨dq, osq⟩, hw''⟩ := hw'
  subst hw''
  have J := below_regrown W1 dq osq
  generalize grow (redrawn W1 dq) osq = v1 at J ⊢
  have z1 := J.size
  have zF := blk_lt F
  replace F := keep J F
  replace K := bw_trans K J
  replace hsW := hsW.below J
  replace hR : RingL v1.heap.size v1 (some ⟨b, 0, none⟩) (⟨a, la, ca, o⟩ :: xs) := (hR.below J (Nat.le_refl _)).grow J.size
  replace HC : Hid (∀ j, j < np → v1.cell? ⟨g, off + j * 2, none⟩ = some (.int .i64 (ptAt l j).1) ∧ v1.cell? ⟨g, off + j * 2 + 1, none⟩ = some (.int .i64 (ptAt l j).2)) := fun j hj => ⟨(J.cell (p := ⟨g, off + j * 2, none⟩) hg).trans (HC.out j hj).1, (J.cell (p := ⟨g, off + j * 2 + 1, none⟩) hg).trans (HC.out j hj).2⟩
  replace hg : g < v1.heap.size := by omega
  clear d0 d1 q0 q1 f0 f1 f2 X1 X2 J zF
  have HF : Hid (fitI o hs n (ptAt l 0) = true) := hf
  have HP : Hid (ptB (ptAt l 0).1 (ptAt l 0).2 = true) := hp
  clear hf hp
  obtain ⟨m, rfl⟩ : ∃ m, np = m + 1 := ⟨np - 1, by omega⟩
  obtain ⟨c, rfl⟩ : ∃ c, cp = c + 1 := ⟨cp - 1, by omega⟩
  have j1 : (1 : Int) ≤ ((m + 1 : Nat) : Int) := by omega
  have j2 : ((m + 1 : Nat) : Int) ≤ ((c + 1 : Nat) : Int) := by omega
  rcases Nat.eq_zero_or_pos m with hm | hm
  · subst hm
    have e1 : Hid (pathT o hs n l = true) := pathT_iff.2 ⟨by rw [HL.out]; omega, HP.out, HF.out, fun i hi => absurd hi (by rw [HL.out]; omega)⟩
    go_wp2_with fail
    all_goals
      refine wp_loop_rounds 2 ?_
      rw [rounds_succ]
      go_wp2_with fail
      go_ret
      exact ⟨by rw [e1.out]; rfl, K⟩
  · have hc0 : (c = 0) = False := by simp; omega
    have k1 : IntKind.i64.wrap ((m : Int)) = (m : Int) := wrap_small (by omega) (by omega)
    have zF := blk_lt F
    go_wp2_with fail
    go_loopw [45] (fun i wr => ∃ k : Nat, k ≤ m ∧ i = .int .i64 k ∧ (∀ j, j < k → mayT o hs n (ptAt l j) (ptAt l (j + 1)) = true) ∧ Below v1.heap.size v1 wr) (fun i _ => m - (intOf i).toNat)
    case atStart => exact ⟨0, Nat.zero_le _, rfl, fun j hj => absurd hj (Nat.not_lt_zero _), bw_refl _⟩
    case round =>
      obtain ⟨k, hk, rfl, hst, hnx⟩ := hrel
      have HST : Hid (∀ j, j < k → mayT o hs n (ptAt l j) (ptAt l (j + 1)) = true) := hst
      clear hst
      have KW := bw_trans K hnx
      by_cases hlt : k < m
      case neg =>
        obtain rfl : k = m := by omega
        have e1 : Hid (pathT o hs n l = true) := pathT_iff.2 ⟨by rw [HL.out]; omega, HP.out, HF.out, fun i hi => HST.out i (by rw [HL.out] at hi; omega)⟩
        go_wp2_with fail
        go_ret
        exact ⟨by rw [e1.out]; rfl, KW⟩
      case pos =>
        have i3 : (0 : Int) ≤ (k : Int) := Int.natCast_nonneg _
        have i4 : (k : Int) < (m : Int) := by omega
        have i5 : (k : Int) < (m : Int) + 1 := by omega
        obtain ⟨d0, d1⟩ := HC.out (k + 1) (by omega)
        have c0 := (hnx.cell (p := ⟨g, off + (k + 1) * 2, none⟩) hg).trans d0
        have c1' := (hnx.cell (p := ⟨g, off + (k + 1) * 2 + 1, none⟩) hg).trans d1
        rw [show off + (k + 1) * 2 = off + 2 + k * 2 by omega] at c0 c1'
        obtain ⟨d2, d3⟩ := HC.out k (by omega)
        have F2 := keep hnx F
        obtain ⟨V, hV, BV, T⟩ : ∃ V, V = wr.alloc (.cells #[.int .i64 (ptAt l (k+1)).1, .int .i64 (ptAt l (k+1)).2] 43) ∧ Below wr.heap.size wr V ∧ V.heap[wr.heap.size]? = some (.cells #[.int .i64 (ptAt l (k+1)).1, .int .i64 (ptAt l (k+1)).2] 43) := ⟨_, rfl, (by repeat (first | exact bw_refl _ | assumption | apply bw_drewN | apply bw_drew | apply bw_alloc | refine bw_set ?_ (by simp) _)), heap_new _ _⟩
        have hnV := bw_trans hnx BV
        have q0 := cell_regrown ((hnV.cell (p := ⟨g, off + k * 2, none⟩) hg).trans d2)
        have q1 := cell_regrown ((hnV.cell (p := ⟨g, off + k * 2 + 1, none⟩) hg).trans d3)
        clear d0 d1 d2 d3
        go_upto_region 9 with fail
        rw [← hV]
        clear hV c0 c1'
        obtain ⟨f0, f1, f2⟩ := reg_3 (keep hnV F)
        obtain ⟨t0, t1⟩ := reg_2 T
        have hsV := hsW.below hnV
        have hRV : RingL V.heap.size V (some ⟨b, 0, none⟩) (⟨a, la, ca, o⟩ :: xs) := (hR.below hnV (Nat.le_refl _)).grow hnV.size
        have hM := fun d os => may_any a la ca b xs o hs n (ptAt l k) (ptAt l (k + 1)) ad (grow (redrawn V d) os) (hsV.below (below_regrown V d os)) ((hRV.below (below_regrown V d os) (Nat.le_refl _)).grow (below_regrown V d os).size) hx hv hr
        cases hm' : mayT o hs n (ptAt l k) (ptAt l (k + 1))
        case false =>
          have e1 : Hid (pathT o hs n l = false) := pathT_step (i := k) (by rw [HL.out]; omega) hm'
          have X2 : Hid (∀ d os, Calls Tryz.prog 30 #[.agg #[.pointer (some ⟨b, 0, none⟩), .int .i64 n, .int .i64 1], .agg #[.int .i64 (ptAt l k).1, .int .i64 (ptAt l k).2], .agg #[.int .i64 (ptAt l (k+1)).1, .int .i64 (ptAt l (k+1)).2]] (grow (redrawn V d) os) fun e w' => e = .returned (.bool false) ∧ Below (grow (redrawn V d) os).heap.size (grow (redrawn V d) os) w') := fun d os => by have := hM d os; rwa [hm'] at this
          clear hM hm'
          refine wp_region_quiet_below (by kernel_rfl) (by kernel_rfl) ?_
          repeat (first | go_big_quiet_step (first | (go_at_call 30; with_reducible exact Calls.regrown_of (X2.out _ _))))
          refine wpQuiet_nil ?_
          intro _ hw'
          obtain ⟨⟨dq, osq⟩, hw''⟩ := hw'
          subst hw''
          have J := below_regrown V dq osq
          generalize grow (redrawn V dq) osq = v2 at J ⊢
          go_wp2_with fail
          go_ret
          exact ⟨by rw [e1.out]; rfl, bw_trans K (bw_trans hnV J)⟩
        case true =>
          have X2 : Hid (∀ d os, Calls Tryz.prog 30 #[.agg #[.pointer (some ⟨b, 0, none⟩), .int .i64 n, .int .i64 1], .agg #[.int .i64 (ptAt l k).1, .int .i64 (ptAt l k).2], .agg #[.int .i64 (ptAt l (k+1)).1, .int .i64 (ptAt l (k+1)).2]] (grow (redrawn V d) os) fun e w' => e = .returned (.bool true) ∧ Below (grow (redrawn V d) os).heap.size (grow (redrawn V d) os) w') := fun d os => by have := hM d os; rwa [hm'] at this
          have HS1 : Hid (mayT o hs n (ptAt l k) (ptAt l (k + 1)) = true) := hm'
          clear hM hm'
          refine wp_region_quiet_below (by kernel_rfl) (by kernel_rfl) ?_
          repeat (first | go_big_quiet_step (first | (go_at_call 30; with_reducible exact Calls.regrown_of (X2.out _ _))))
          refine wpQuiet_nil ?_
          intro _ hw'
          obtain ⟨⟨dq, osq⟩, hw''⟩ := hw'
          subst hw''
          have J := below_regrown V dq osq
          generalize grow (redrawn V dq) osq = v2 at J ⊢
          go_wp2_with fail
          go_roundw
          case rel => exact ⟨k + 1, by omega, by simp, fun j hj => by rcases Nat.lt_or_ge j k with h | h; exact HST.out j h; obtain rfl : j = k := (by omega); exact HS1.out, bw_trans hnV J⟩
          case measure => simp [intOf]; omega
end Go.Proofs.YtkncejcpeejkkaaGreatDoor
namespace Go.Proofs.YtkncejcpeejkkaaGreatDoor
open Go.RowKit Go.Sort

set_option maxRecDepth 100000 in
set_option maxHeartbeats 4000000 in
theorem sPathOk_any (a ah : Option Addr) (la ca nh ch : Nat) (o : List P2) (hs : List (List P2)) (r : Int) (ap : Option Addr) (np cp : Nat) (l : List P2) (w : World) (h : Plt w a la ah nh o hs) (hP : Pts w.heap.size w ap np l) :
    Calls Tryz.prog 7 #[.agg #[.slice a la ca, .slice ah nh ch], .int .i64 r, .slice ap np cp] w fun e W' => e = .returned (.bool (pathV o hs r l)) ∧ Below w.heap.size w W' := by
  obtain ⟨W, hW, BW, TP⟩ : ∃ W, W = w.alloc (.cells #[.slice a la ca, .slice ah nh ch] 32) ∧ Below w.heap.size w W ∧ W.heap[w.heap.size]? = some (.cells #[.slice a la ca, .slice ah nh ch] 32 (0, 0)) := ⟨_, rfl, (by repeat (first | exact bw_refl _ | assumption | apply bw_drewN | apply bw_drew | apply bw_alloc | refine bw_set ?_ (by simp) _)), heap_new _ _⟩
  have zB := BW.size
  replace hP := (hP.below BW).grow zB
  have hh := h.below BW
  have hOk := sPlateOk_any a ah la ca nh ch o hs W hh
  obtain ⟨t0, t1⟩ := blk_2 TP
  have hIn := fun V => in_any r 1 9 V
  rw [inR_r] at hIn
  have zP := blk_lt TP
  cases hv : plV o hs
  · have e1 : Hid (pathV o hs r l = false) := by change _ = _; unfold pathV; rw [hv, Bool.and_false]; rfl
    rw [hv] at hOk
    go_enter Tryz.func7, Tryz.ntmps7
    go_upto_region 1 with fail
    rw [← hW]
    clear hW
    go_wp2_with fail
    refine hOk.mono ?_
    rintro e w1 ⟨rfl, J⟩
    go_wp2_with fail
    go_ret
    exact ⟨by rw [e1.out]; rfl, bw_trans BW J⟩
  rw [hv] at hOk
  cases hr : rV r
  · have e1 : Hid (pathV o hs r l = false) := by change _ = _; unfold pathV; rw [hr]; rfl
    rw [hr] at hIn
    go_enter Tryz.func7, Tryz.ntmps7
    go_upto_region 1 with fail
    rw [← hW]
    clear hW
    go_wp2_with fail
    refine hOk.mono ?_
    rintro e w1 ⟨rfl, J⟩
    go_wp2_with fail
    refine (hIn _).mono ?_
    rintro e w2 ⟨rfl, rfl⟩
    go_wp2_with fail
    go_ret
    exact ⟨by rw [e1.out]; rfl, bw_trans BW J⟩
  rw [hr] at hIn
  rw [pathV_of hr hv]
  obtain ⟨hlen, hP⟩ := hP
  have HL : Hid (l.length = np) := hlen
  by_cases c1 : np = 0
  · subst c1
    have e1 : Hid (pathT o hs r l = false) := pathT_len (by rw [hlen]; omega)
    clear hP hlen
    go_enter Tryz.func7, Tryz.ntmps7
    go_upto_region 1 with fail
    rw [← hW]
    clear hW
    go_wp2_with fail
    refine hOk.mono ?_
    rintro e w1 ⟨rfl, J⟩
    go_wp2_with fail
    refine (hIn _).mono ?_
    rintro e w2 ⟨rfl, rfl⟩
    go_wp2_with fail
    go_ret
    exact ⟨by rw [e1.out]; rfl, bw_trans BW J⟩
  have i0 : ((np : Int) == 0) = false := by simp; omega
  by_cases c4 : 400 < np
  · have e1 : Hid (pathT o hs r l = false) := pathT_len (by rw [hlen]; omega)
    have i2 : (400 : Int) < (np : Int) := by omega
    clear hP hlen
    go_enter Tryz.func7, Tryz.ntmps7
    go_upto_region 1 with fail
    rw [← hW]
    clear hW
    go_wp2_with fail
    refine hOk.mono ?_
    rintro e w1 ⟨rfl, J⟩
    go_wp2_with fail
    refine (hIn _).mono ?_
    rintro e w2 ⟨rfl, rfl⟩
    go_wp2_with fail
    go_ret
    exact ⟨by rw [e1.out]; rfl, bw_trans BW J⟩
  have i2 : ¬ (400 : Int) < (np : Int) := by omega
  rcases hP with hz | ⟨g, off, rfl, hg, hc⟩
  · omega
  have HC0 : Hid (∀ j, j < np → W.cell? ⟨g, off + j * 2, none⟩ = some (.int .i64 (ptAt l j).1) ∧ W.cell? ⟨g, off + j * 2 + 1, none⟩ = some (.int .i64 (ptAt l j).2)) := hc
  clear hc hlen
  have n3 := plE_ne hv
  have n24 := plE_len o hs
  obtain ⟨N, hN⟩ : ∃ N, (plE o hs).length = N := ⟨_, rfl⟩
  go_enter Tryz.func7, Tryz.ntmps7
  go_upto_region 1 with fail
  rw [← hW]
  clear hW
  go_wp2_with fail
  refine hOk.mono ?_
  rintro e w1 ⟨rfl, J⟩
  go_wp2_with fail
  refine (hIn _).mono ?_
  rintro e w2 ⟨rfl, rfl⟩
  replace TP := keep J TP
  clear t0 t1 hOk
  obtain ⟨t0, t1⟩ := blk_2 TP
  go_wp2_with fail
  refine (l11Edges_ok a ah la ca nh ch o hs hv _ (hh.below J)).mono ?_
  rintro e w3 ⟨v, rfl, ho, J2⟩
  obtain ⟨ge, ce, rfl, hge, hR⟩ := row_of_owns' ho (by omega)
  rw [hN]
  have J3 := bw_trans J J2
  replace TP := keep J2 TP
  replace hh := hh.below J3
  have K := bw_trans BW J3
  have HC : Hid (∀ j, j < np → w3.cell? ⟨g, off + j * 2, none⟩ = some (.int .i64 (ptAt l j).1) ∧ w3.cell? ⟨g, off + j * 2 + 1, none⟩ = some (.int .i64 (ptAt l j).2)) := fun j hj => ⟨(J3.cell (p := ⟨g, off + j * 2, none⟩) hg).trans (HC0.out j hj).1, (J3.cell (p := ⟨g, off + j * 2 + 1, none⟩) hg).trans (HC0.out j hj).2⟩
  have hg3 : g < w3.heap.size := by have := J3.size; omega
  have HE : Hid (∀ s ∈ plE o hs, sgP s.1 s.2 = true) := fun s hs' => plE_ok hv hs'
  have zP3 := blk_lt TP
  clear t0 t1 J J2 J3 ho HC0 hg hIn zP
  go_wp2_with fail
  go_loopw [8] (fun i wr => ∃ k : Nat, k ≤ np ∧ i = .int .i64 k ∧ (∀ j, j < k → ptB (ptAt l j).1 (ptAt l j).2 = true) ∧ (0 < k → fitI o hs r (ptAt l 0) = true) ∧ (∀ j, j + 1 < k → mayT o hs r (ptAt l j) (ptAt l (j + 1)) = true) ∧ Below w3.heap.size w3 wr) (fun i _ => np - (intOf i).toNat)
  case atStart => exact ⟨0, Nat.zero_le _, rfl, fun j hj => absurd hj (Nat.not_lt_zero _), fun h => absurd h (Nat.lt_irrefl _), fun j hj => absurd hj (by omega), bw_refl _⟩
  case round =>
    obtain ⟨k, hk, rfl, hpt, hft, hst, hnx⟩ := hrel
    have HPT : Hid (∀ j, j < k → ptB (ptAt l j).1 (ptAt l j).2 = true) := hpt
    have HFT : Hid (0 < k → fitI o hs r (ptAt l 0) = true) := hft
    have HST : Hid (∀ j, j + 1 < k → mayT o hs r (ptAt l j) (ptAt l (j + 1)) = true) := hst
    clear hpt hft hst
    have KW := bw_trans K hnx
    by_cases hlt : k < np
    case neg =>
      obtain rfl : k = np := by omega
      have e1 : Hid (pathT o hs r l = true) := pathT_iff.2 ⟨by rw [HL.out]; omega, HPT.out 0 (by omega), HFT.out (by omega), fun i hi => HST.out i (by rw [HL.out] at hi; exact hi)⟩
      go_wp2_with fail
      go_ret
      exact ⟨by rw [e1.out]; rfl, KW⟩
    case pos =>
      have i3 : (0 : Int) ≤ (k : Int) := Int.natCast_nonneg _
      have i4 : (k : Int) < (np : Int) := by omega
      obtain ⟨d0, d1⟩ := HC.out k hlt
      have q0 := cell_regrown ((hnx.cell (p := ⟨g, off + k * 2, none⟩) hg3).trans d0)
      have q1 := cell_regrown ((hnx.cell (p := ⟨g, off + k * 2 + 1, none⟩) hg3).trans d1)
      have hhw := hh.below hnx
      have hRw := hR.below hnx hge
      have hgw : ge < wr.heap.size := by have := hnx.size; omega
      obtain ⟨t0, t1⟩ := reg_2 (keep hnx TP)
      have HP0 := fun V => sPt_raw (ptAt l k) V
      clear d0 d1
      cases hp : ptB (ptAt l k).1 (ptAt l k).2
      case false =>
        have e1 : Hid (pathT o hs r l = false) := by
          change _ = _
          rw [Bool.eq_false_iff]; intro hc; rw [pathT_ok hc (by rw [HL.out]; exact hlt)] at hp; cases hp
        have X1 : Hid (∀ w, Calls Tryz.prog 21 #[.agg #[.int .i64 (ptAt l k).1, .int .i64 (ptAt l k).2]] w fun e w' => e = .returned (.bool false) ∧ Below w.heap.size w w') := fun w => by have := HP0 w; rwa [hp] at this
        clear HP0 hp
        go_wp2_with fail
        refine wp_region_quiet_below (by kernel_rfl) (by kernel_rfl) ?_
        repeat (first | go_big_quiet_step (first | (go_at_call 21; with_reducible exact Calls.regrown_of (X1.out _))))
        refine wpQuiet_nil ?_
        intro _ hw'
        obtain ⟨⟨dq, osq⟩, hw''⟩ := hw'
        subst hw''
        have J := below_regrown wr dq osq
        generalize grow (redrawn wr dq) osq = v1 at J ⊢
        go_wp2_with fail
        go_ret
        exact ⟨by rw [e1.out]; rfl, bw_trans KW J⟩
      case true =>
        have X1 : Hid (∀ w, Calls Tryz.prog 21 #[.agg #[.int .i64 (ptAt l k).1, .int .i64 (ptAt l k).2]] w fun e w' => e = .returned (.bool true) ∧ Below w.heap.size w w') := fun w => by have := HP0 w; rwa [hp] at this
        have HQ : Hid (ptB (ptAt l k).1 (ptAt l k).2 = true) := hp
        clear HP0
        rcases Nat.eq_zero_or_pos k with hk0 | hk0
        · subst hk0
          have q0' : ∀ (d : Nat) (os : Array Obj), (grow (redrawn wr d) os).cell? ⟨g, off, none⟩ = some (.int .i64 (ptAt l 0).1) := by simpa using q0
          have q1' : ∀ (d : Nat) (os : Array Obj), (grow (redrawn wr d) os).cell? ⟨g, off + 1, none⟩ = some (.int .i64 (ptAt l 0).2) := by simpa using q1
          have i4' : (0 : Int) < (np : Int) := by omega
          clear q0 q1 i3 i4
          have hF := fun d os => sFits_ok a ah la ca nh ch o hs ge N ce (plE o hs) r (ptAt l 0) (grow (redrawn wr d) os) (hhw.below (below_regrown wr d os)) hv hr hp (hRw.below (below_regrown wr d os) hgw) (Nat.lt_of_lt_of_le hgw (below_regrown wr d os).size) hN (by omega) HE.out
          have X2' : ∀ b, fitI o hs r (ptAt l 0) = b → Hid (∀ d os, Calls Tryz.prog 22 #[.agg #[.slice a la ca, .slice ah nh ch], .slice (some ⟨ge, 0, none⟩) N ce, .int .i64 r, .agg #[.int .i64 (ptAt l 0).1, .int .i64 (ptAt l 0).2]] (grow (redrawn wr d) os) fun e w' => e = .returned (.bool b) ∧ Below (grow (redrawn wr d) os).heap.size (grow (redrawn wr d) os) w') := fun b hb d os => by
            have := hF d os
            rw [← fitI_all hr hv hp, hb] at this
            exact this
          clear hF hp
          cases hf : fitI o hs r (ptAt l 0)
          case false =>
            have X2 := X2' false hf
            have e1 : Hid (pathT o hs r l = false) := pathT_fit hf
            clear X2'
            go_wp2_with fail
            refine wp_region_quiet_below (by kernel_rfl) (by kernel_rfl) ?_
            repeat (first | go_big_quiet_step (first | (go_at_call 21; with_reducible exact Calls.regrown_of (X1.out _)) | (go_at_call 22; with_reducible exact Calls.regrown_of (X2.out _ _))))
            refine wpQuiet_nil ?_
            intro _ hw'
            obtain ⟨⟨dq, osq⟩, hw''⟩ := hw'
            subst hw''
            have J := below_regrown wr dq osq
            generalize grow (redrawn wr dq) osq = v1 at J ⊢
            go_wp2_with fail
            go_ret
            exact ⟨by rw [e1.out]; rfl, bw_trans KW J⟩
          case true =>
            have X2 := X2' true hf
            have HFT0 : Hid (fitI o hs r (ptAt l 0) = true) := hf
            clear X2' hf
            go_wp2_with fail
            refine wp_region_quiet_below (by kernel_rfl) (by kernel_rfl) ?_
            repeat (first | go_big_quiet_step (first | (go_at_call 21; with_reducible exact Calls.regrown_of (X1.out _)) | (go_at_call 22; with_reducible exact Calls.regrown_of (X2.out _ _))))
            refine wpQuiet_nil ?_
            intro _ hw'
            obtain ⟨⟨dq, osq⟩, hw''⟩ := hw'
            subst hw''
            have J := below_regrown wr dq osq
            generalize grow (redrawn wr dq) osq = v1 at J ⊢
            go_wp2_with fail
            go_roundw
            case rel => exact ⟨1, by omega, by simp, fun j hj => by obtain rfl : j = 0 := (by omega); exact HQ.out, (fun _ => by first | exact HFT0.out | trivial), fun j hj => absurd hj (by omega), bw_trans hnx J⟩
            case measure => simp [intOf]; omega
        · obtain ⟨q, rfl⟩ : ∃ q, k = q + 1 := ⟨k - 1, by omega⟩
          have hpq := HPT.out q (by omega)
          obtain ⟨d0, d1⟩ := HC.out q (by omega)
          have s0 := cell_regrown ((hnx.cell (p := ⟨g, off + q * 2, none⟩) hg3).trans d0)
          have s1 := cell_regrown ((hnx.cell (p := ⟨g, off + q * 2 + 1, none⟩) hg3).trans d1)
          have j1 : IntKind.i64.wrap ((q : Int)) = (q : Int) := wrap_small (by omega) (by omega)
          have j2 : (0 : Int) ≤ (q : Int) := Int.natCast_nonneg _
          have j3 : (q : Int) < (np : Int) := by omega
          have j4 : ((q : Int) + 1 = 0) = False := by simp; omega
          have j5 : (0 : Int) < (q : Int) + 1 := by omega
          have j6 : ((q : Int) + 1 == 0) = false := by simp; omega
          have hB := fun V => sBeside_ok (ptAt l q) (ptAt l (q + 1)) V hpq hp
          clear d0 d1
          by_cases hd : dt (ptAt l q).1 (ptAt l q).2 (ptAt l (q + 1)).1 (ptAt l (q + 1)).2 (ptAt l (q + 1)).1 (ptAt l (q + 1)).2 = 1
          case neg =>
            have e1 : Hid (pathT o hs r l = false) := pathT_step (i := q) (by rw [HL.out]; exact hlt) (by rw [Bool.eq_false_iff]; intro hc; exact hd (mayT_parts hc).2.2.1)
            have X2 : Hid (∀ V, Calls Tryz.prog 23 #[.agg #[.int .i64 (ptAt l q).1, .int .i64 (ptAt l q).2], .agg #[.int .i64 (ptAt l (q+1)).1, .int .i64 (ptAt l (q+1)).2]] V fun e w' => e = .returned (.bool false) ∧ Below V.heap.size V w') := fun V => by have := hB V; rwa [decide_eq_false hd] at this
            clear hB hd
            go_wp2_with fail
            refine wp_region_quiet_below (by kernel_rfl) (by kernel_rfl) ?_
            repeat (first | go_big_quiet_step (first | (go_at_call 21; with_reducible exact Calls.regrown_of (X1.out _)) | (go_at_call 23; with_reducible exact Calls.regrown_of (X2.out _))))
            refine wpQuiet_nil ?_
            intro _ hw'
            obtain ⟨⟨dq, osq⟩, hw''⟩ := hw'
            subst hw''
            have J := below_regrown wr dq osq
            generalize grow (redrawn wr dq) osq = v1 at J ⊢
            go_wp2_with fail
            go_ret
            exact ⟨by rw [e1.out]; rfl, bw_trans KW J⟩
          case pos =>
            have X2 : Hid (∀ V, Calls Tryz.prog 23 #[.agg #[.int .i64 (ptAt l q).1, .int .i64 (ptAt l q).2], .agg #[.int .i64 (ptAt l (q+1)).1, .int .i64 (ptAt l (q+1)).2]] V fun e w' => e = .returned (.bool true) ∧ Below V.heap.size V w') := fun V => by have := hB V; rwa [decide_eq_true hd] at this
            have hM := fun d os => sMayI_ok a ah la ca nh ch o hs ge N ce r (ptAt l q) (ptAt l (q + 1)) (grow (redrawn wr d) os) (hhw.below (below_regrown wr d os)) hv hr hpq hp hd (hRw.below (below_regrown wr d os) hgw) (Nat.lt_of_lt_of_le hgw (below_regrown wr d os).size) hN
            have X3' : ∀ b, mayI o hs r (ptAt l q) (ptAt l (q + 1)) = b → Hid (∀ d os, Calls Tryz.prog 24 #[.agg #[.slice a la ca, .slice ah nh ch], .slice (some ⟨ge, 0, none⟩) N ce, .int .i64 r, .agg #[.int .i64 (ptAt l q).1, .int .i64 (ptAt l q).2], .agg #[.int .i64 (ptAt l (q+1)).1, .int .i64 (ptAt l (q+1)).2]] (grow (redrawn wr d) os) fun e w' => e = .returned (.bool b) ∧ Below (grow (redrawn wr d) os).heap.size (grow (redrawn wr d) os) w') := fun b hb d os => by
              have := hM d os
              rw [hb] at this
              exact this
            clear hB hM
            cases hm : mayI o hs r (ptAt l q) (ptAt l (q + 1))
            case false =>
              have X3 := X3' false hm
              have e1 : Hid (pathT o hs r l = false) := pathT_step (i := q) (by rw [HL.out]; exact hlt) (by rw [Bool.eq_false_iff]; intro hc; rw [(mayT_parts hc).2.2.2] at hm; cases hm)
              clear X3' hm hd
              go_wp2_with fail
              refine wp_region_quiet_below (by kernel_rfl) (by kernel_rfl) ?_
              repeat (first | go_big_quiet_step (first | (go_at_call 21; with_reducible exact Calls.regrown_of (X1.out _)) | (go_at_call 23; with_reducible exact Calls.regrown_of (X2.out _)) | (go_at_call 24; with_reducible exact Calls.regrown_of (X3.out _ _))))
              refine wpQuiet_nil ?_
              intro _ hw'
              obtain ⟨⟨dq, osq⟩, hw''⟩ := hw'
              subst hw''
              have J := below_regrown wr dq osq
              generalize grow (redrawn wr dq) osq = v1 at J ⊢
              go_wp2_with fail
              go_ret
              exact ⟨by rw [e1.out]; rfl, bw_trans KW J⟩
            case true =>
              have X3 := X3' true hm
              have HS1 : Hid (mayT o hs r (ptAt l q) (ptAt l (q + 1)) = true) := by change _ = _; unfold mayT; rw [hpq, hp, decide_eq_true hd, hm]; rfl
              clear X3' hm hd
              go_wp2_with fail
              refine wp_region_quiet_below (by kernel_rfl) (by kernel_rfl) ?_
              repeat (first | go_big_quiet_step (first | (go_at_call 21; with_reducible exact Calls.regrown_of (X1.out _)) | (go_at_call 23; with_reducible exact Calls.regrown_of (X2.out _)) | (go_at_call 24; with_reducible exact Calls.regrown_of (X3.out _ _))))
              refine wpQuiet_nil ?_
              intro _ hw'
              obtain ⟨⟨dq, osq⟩, hw''⟩ := hw'
              subst hw''
              have J := below_regrown wr dq osq
              generalize grow (redrawn wr dq) osq = v1 at J ⊢
              go_wp2_with fail
              go_roundw
              case rel => exact ⟨q + 1 + 1, by omega, by simp, fun j hj => by rcases Nat.lt_or_ge j (q + 1) with h | h; exact HPT.out j h; obtain rfl : j = q + 1 := (by omega); exact HQ.out, fun _ => HFT.out (by omega), fun j hj => by rcases Nat.lt_or_ge (j + 1) (q + 1) with h | h; exact HST.out j h; obtain rfl : j = q := (by omega); exact HS1.out, bw_trans hnx J⟩
              case measure => simp [intOf]; omega
end Go.Proofs.YtkncejcpeejkkaaGreatDoor
namespace Go.Proofs.YtkncejcpeejkkaaGreatDoor
open Go.RowKit

theorem boxes1 (w : World) (o : Obj) : ∃ W, W = w.alloc o ∧ Below w.heap.size w W ∧ W.heap[w.heap.size]? = some o := ⟨_, rfl, (by repeat (first | exact bw_refl _ | assumption | apply bw_drewN | apply bw_drew | apply bw_alloc | refine bw_set ?_ (by simp) _)), heap_new _ _⟩
theorem pt_mir {x y : Int} (h : ptB x y = true) : ptB (9 - x) y = true := by rw [ptB_iff] at *; omega
theorem pt_swap {x y : Int} (h : ptB x y = true) : ptB y x = true := by rw [ptB_iff] at *; omega
end Go.Proofs.YtkncejcpeejkkaaGreatDoor
namespace Go.Proofs.YtkncejcpeejkkaaGreatDoor
open Go.RowKit

/-- Points that were handed back, in memory of their own. -/
def AnsP (w : World) (m : List P2) (e : Ending) (w' : World) : Prop :=
  ∃ g' c', e = .returned (.slice (some ⟨g', 0, none⟩) m.length c') ∧ PtBlk w' g' c' m m.length ∧ Below w.heap.size w w'
theorem blk_cell {W : World} {g c n : Nat} {l : List P2} (h : PtBlk W g c l n) (hl : l.length = n) : ∀ (i : Nat) u, (ptCells l)[i]? = some u → W.cell? ⟨g, i, none⟩ = some u := by
  obtain ⟨cur, hg, hs, hc⟩ := h
  intro i u hu
  have hi : i < n * 2 := by
    rcases Nat.lt_or_ge i (n * 2) with h | h
    · exact h
    · rw [List.getElem?_eq_none (by rw [ptCells_len]; omega)] at hu; cases hu
  rw [row_cell hg]
  obtain ⟨c0, c1⟩ := hc (i / 2) (by omega)
  obtain ⟨a0, a1⟩ := ptCells_at l (i / 2) (by omega)
  rcases Nat.mod_two_eq_zero_or_one i with e | e
  · have e' : i = i / 2 * 2 := by omega
    rw [e', a0] at hu; rw [e', c0]; exact hu
  · have e' : i = i / 2 * 2 + 1 := by omega
    rw [e', a1] at hu; rw [e', c1]; exact hu
theorem ptCells_drop (l : List P2) (k : Nat) : ptCells (l.drop k) = (ptCells l).drop (k * 2) := by
  induction l generalizing k with
  | nil => simp [ptCells]
  | cons p l ih =>
    cases k with
    | zero => simp
    | succ k =>
      have e : ptCells (p :: l) = .int .i64 p.1 :: .int .i64 p.2 :: ptCells l := rfl
      have e1 : (k + 1) * 2 = k * 2 + 1 + 1 := by omega
      rw [List.drop_succ_cons, ih, e, e1]; rfl
theorem ptCells_take (l : List P2) (k : Nat) : ptCells (l.take k) = (ptCells l).take (k * 2) := by
  induction l generalizing k with
  | nil => simp [ptCells]
  | cons p l ih =>
    cases k with
    | zero => simp [ptCells]
    | succ k =>
      have e : ptCells (p :: l) = .int .i64 p.1 :: .int .i64 p.2 :: ptCells l := rfl
      have e1 : (k + 1) * 2 = k * 2 + 1 + 1 := by omega
      rw [List.take_succ_cons, e, e1, List.take_succ_cons, List.take_succ_cons, ← ih]; rfl
theorem of_take {α : Type} {l : List α} {m j : Nat} {u : α} (h : (l.take m)[j]? = some u) : l[j]? = some u := by
  rw [List.getElem?_take] at h; split at h
  · exact h
  · cases h
theorem ptCells_append (a b : List P2) : ptCells (a ++ b) = ptCells a ++ ptCells b := by simp [ptCells]
theorem ptCells_one (l : List P2) : ∀ u ∈ ptCells l, u.oneCell' = true := by
  intro u hu
  simp only [ptCells, List.mem_flatMap, List.mem_cons, List.not_mem_nil, or_false] at hu
  obtain ⟨p, _, rfl | rfl⟩ := hu <;> rfl
theorem news_at {W : World} {g c n k : Nat} {l m : List P2} (h : PtBlk W g c l n) (hl : l.length = n) (hm : ∀ (j : Nat) u, (ptCells m)[j]? = some u → (ptCells l)[k * 2 + j]? = some u) :
    ∀ j u, (ptCells m)[j]? = some u → W.cell? ((⟨g, k * 2, none⟩ : Addr).add j) = some u := fun j u hu => by
  have hadd : (⟨g, k * 2, none⟩ : Addr).add j = ⟨g, k * 2 + j, none⟩ := by unfold Addr.add; split <;> simp_all
  rw [hadd]; exact blk_cell h hl _ _ (hm j u hu)
theorem news_0 {W : World} {g c n : Nat} {l m : List P2} (h : PtBlk W g c l n) (hl : l.length = n) (hm : ∀ (j : Nat) u, (ptCells m)[j]? = some u → (ptCells l)[j]? = some u) :
    ∀ j u, (ptCells m)[j]? = some u → W.cell? ((⟨g, 0, none⟩ : Addr).add j) = some u := fun j u hu => by
  have hadd : (⟨g, 0, none⟩ : Addr).add j = ⟨g, j, none⟩ := by unfold Addr.add; split <;> simp_all
  rw [hadd]; exact blk_cell h hl _ _ (hm j u hu)
theorem blk_grown {W W' : World} {g c n : Nat} {l : List P2} {row : Option Nat} (h : PtBlk W g c l n) (hg : W.grownBy W' row) (hne : some g ≠ row) : PtBlk W' g c l n := by
  have hlt := h.lt
  obtain ⟨cur, h, hs⟩ := h
  exact ⟨cur, (hg.block g hlt hne).trans h, hs⟩
/-- Append, something being there behind it, as a step of a region that draws. -/
theorem step_append_more {P : Program} {w : World} {ops : Array Oper} {o : Oper} {a : Act} {K : Act → World → Prop} {Q : Exit → Act → World → Prop} {E : Prop} (hgd : o.guard = none) (s x : Operand) (t : TypeId)
    (ho : o.op = .call { callee := .builtin .append, args := #[s, x], argTypes := #[t, t] })
    (base : Nat) (e : TypeId) (i : TypeInfo) (z : Value) (size bytes : Nat) (ht : P.underlying t = some (.slice e)) (hi : P.info? e = some i) (hz : i.zero = some z)
    (hsize : i.size = size) (hby : i.bytes = bytes) (hzs : z.cells.size = size) (hsz : 0 < size)
    (v : Value) (n : Nat) (xs : List Value) (hs : a.eval s = v) (hown : w.ownsRow base e size v n xs)
    (ad : Addr) (m c : Nat) (news : List Value) (hx : a.eval x = .slice (some ad) m c) (hl : news.length = m * size) (hnews : ∀ j u, news[j]? = some u → w.cell? (ad.add j) = some u) (h1 : ∀ u ∈ news, u.oneCell' = true)
    (hm : 0 < n + m) (h63 : n + m ≤ maxLen) (hbytes : (n + m) * bytes ≤ 140737488355328) (hbase : base ≤ w.heap.size)
    (h : ∀ g cap w', w'.ownsRow base e size (.slice (some ⟨g, 0, none⟩) (n + m) cap) (n + m) (xs ++ news) → w.grownBy w' v.ownBlock → base ≤ g → K (a.put o.dst (.slice (some ⟨g, 0, none⟩) (n + m) cap)) w') :
    if Region.wanted o (yielded ops a.tmps) = true then Oper.wp P o a w K Q else E := by
  have hw : Region.wanted o (yielded ops a.tmps) = true := by simp [Region.wanted, hgd]
  rw [if_pos hw]
  obtain ⟨v', w', hr, h2, h3, _⟩ := run_append_own (P := P) w base t o.type e i z size bytes ht hi hz hsize hby hzs hsz v n xs hown ad m c news hl hnews h1 h63 hbytes hbase
  obtain ⟨g, cap, rfl, hb, _⟩ := h2.form hm
  unfold Oper.wp execOp
  simp only [ho, resolve, invoke, builtin, Sem.run_bind, Sem.run_pure, Result.andThen_ok, List.map_toArray, List.map_cons, List.map_nil, hs, hx, hr]
  exact h g cap w' h2 h3 hb
set_option maxRecDepth 100000 in
set_option maxHeartbeats 2000000 in
theorem luBackward_ok (g n c : Nat) (l : List P2) (w : World) (hb : PtBlk w g c l n) (hl : l.length = n) (hn1 : 1 ≤ n) (hn : n ≤ 100) :
    Calls Tryz.prog 16 #[.slice (some ⟨g, 0, none⟩) n c] w (AnsP w l.reverse) := by
  obtain ⟨i0, hi0, hz0, hz1, hz2⟩ := info_parts Tryz.infoPt
  have zg := hb.lt
  have hPt := hb.pts' hl
  obtain ⟨_, hPc⟩ := hPt
  rcases hPc with h0 | ⟨b, off, hbo, hbl, hcs⟩
  · omega
  cases hbo
  have HL : Hid (l.length = n) := hl
  clear hl
  go_enter Tryz.func16, Tryz.ntmps16
  go_wp2_with fail
  go_loopw [3, 4] (fun o i wr => ∃ k : Nat, k ≤ n ∧ i = .int .i64 ((n : Int) - 1 - k) ∧ wr.ownsRow w.heap.size 43 2 o k (ptCells (l.reverse.take k)) ∧ Below w.heap.size w wr) (fun _ i _ => (intOf i + 1).toNat)
  case atStart => exact ⟨0, Nat.zero_le _, by simp, World.ownsRow_made w #[] 0 (Nat.le_refl _) (by simp [maxLen]) rfl, (by repeat (first | exact bw_refl _ | assumption | apply bw_drewN | apply bw_drew | apply bw_alloc | refine bw_set ?_ (by simp) _))⟩
  case round =>
    obtain ⟨k, hk, rfl, hown, hnx⟩ := hrel
    by_cases hlt : k < n
    · obtain ⟨m, hm⟩ : ∃ m : Nat, n - 1 - k = m := ⟨_, rfl⟩
      have hmi : (n : Int) - 1 - k = (m : Int) := by omega
      have hmn : m < n := by omega
      rw [hmi]
      have d0 := (hnx.cell (p := ⟨g, 0 + m * 2, none⟩) hbl).trans (hcs m hmn).1
      have d1 := (hnx.cell (p := ⟨g, 0 + m * 2 + 1, none⟩) hbl).trans (hcs m hmn).2
      simp only [Nat.zero_add] at d0 d1
      have hsn : Hid (ptCells (l.reverse.take (k + 1)) = ptCells (l.reverse.take k) ++ [.int .i64 (ptAt l m).1, .int .i64 (ptAt l m).2]) := by
        change _ = _
        have e : l.reverse.take (k + 1) = l.reverse.take k ++ [ptAt l m] := by
          rw [List.take_add_one, List.getElem?_reverse (by rw [HL.out]; exact hlt), HL.out, hm]
          simp [ptAt, HL.out, hmn]
        rw [e, ptCells_snoc]
      have hzz := hnx.size
      have q1 : IntKind.i64.wrap ((m : Int) - 1) = (m : Int) - 1 := wrap_small (by omega) (by omega)
      go_wp2_with (at_builtin; refine wpList_append_lies _ rfl _ _ _ rfl w.heap.size 43 i0 _ 2 16 Tryz.underlying29 hi0 hz0 hz1 hz2 rfl (by omega) _ k _ rfl (hown.alloc _) ⟨wr.heap.size, 0, none⟩ 1 1 [.int .i64 (ptAt l m).1, .int .i64 (ptAt l m).2] rfl rfl (World.news_of_block (cs := #[.int .i64 (ptAt l m).1, .int .i64 (ptAt l m).2]) (t := 43) (fr := (0, 0)) (heap_alloc_new wr _)) (by simp [Value.oneCell']) (by omega) (by simp [maxLen]; omega) (by omega) (by simp; omega) (wr.heap.size + 1) (by simp) ?_; intro gg cap' w8 hown1 hgrow hat hlt1)
      go_roundw
      case rel => exact ⟨k + 1, by omega, by have e : (m : Int) - 1 = (n : Int) - 1 - ((k + 1 : Nat) : Int) := (by omega); rw [e], by rw [hsn.out]; exact hown1, (hnx.alloc hnx.size _).grown hgrow (by simp; omega) (fun j e => (hown.lt j e).1)⟩
      case measure => simp [intOf]
    · obtain rfl : k = n := by omega
      have hneg : ¬ (0 ≤ (k : Int) - 1 - k) := by omega
      have hneg2 : (k : Int) - 1 - k < 0 := by omega
      rw [List.take_of_length_le (by rw [List.length_reverse, HL.out]; exact Nat.le_refl _)] at hown
      obtain ⟨g2, c2, rfl, _, _⟩ := hown.form (by omega)
      obtain ⟨hb3, _, _, _⟩ := blk_of_own hown (by rw [List.length_reverse]; exact HL.out)
      go_wp2_with fail
      go_ret
      exact ⟨g2, c2, by rw [List.length_reverse, HL.out]; rfl, by rw [List.length_reverse, HL.out]; exact hb3, hnx⟩
end Go.Proofs.YtkncejcpeejkkaaGreatDoor
namespace Go.Proofs.YtkncejcpeejkkaaGreatDoor
open Go.RowKit Go.Sort

theorem blk_room {W : World} {g c m : Nat} {l : List P2} (h : PtBlk W g c l m) : m ≤ c := by
  obtain ⟨cur, _, hs, hc⟩ := h
  rcases Nat.eq_zero_or_pos m with h0 | h0
  · omega
  · have := (hc (m - 1) (by omega)).1
    have := (Array.getElem?_eq_some_iff.1 this).1
    omega
set_option maxRecDepth 100000 in
set_option maxHeartbeats 8000000 in
theorem pathStep_walk (w : World) (a0 : Option Addr) (len0 cap0 : Nat) (z0 : List Int) (r0 : IsRow .u8 w a0 len0 cap0 z0) (a1 : Option Addr) (len1 cap1 : Nat) (z1 : List Int) (_ : IsRow .u8 w a1 len1 cap1 z1) (ad : Addr) (hs0 : Sent ad w) :
    Calls Tryz.prog 4 #[.slice a0 len0 cap0, .slice a1 len1 cap1] w fun e w' => e = .returned (.bool true) ∧ Below w.heap.size w w' := by
  by_cases hl : 1048576 < len0
  · go_enter Tryz.func4, Tryz.ntmps4
    go_wp2
    go_ret
    exact ⟨rfl, bw_refl _⟩
  have hl0 : len0 ≤ 1048576 := by omega
  clear hl
  by_cases hl : 1048576 < len1
  · go_enter Tryz.func4, Tryz.ntmps4
    go_wp2
    go_ret
    exact ⟨rfl, bw_refl _⟩
  have hl1 : len1 ≤ 1048576 := by omega
  clear hl
  have hmx : Tryz.prog.follows .mixedOrders = true := by kernel_rfl
  go_enter Tryz.func4, Tryz.ntmps4
  go_wp2_with fail
  refine (drawPathOk_any w _ r0 (bw_refl _)).mono ?_
  rintro e w1 ⟨⟨g, n, c, l⟩, hv, hs, r, pg, pc, m, pl, he, hrb, hD, ⟨hs3, hst⟩, ⟨pm, ppl, pmc, pcm, pb⟩, J1⟩
  obtain rfl : e = .returned (.tuple #[.agg #[.slice (some ⟨g, 0, none⟩) n c, hv], .int .i64 r, .slice (some ⟨pg, 0, none⟩) m pc]) := he
  obtain ⟨gh, ch, rfl⟩ : ∃ gh ch, hv = .slice (some ⟨gh, 0, none⟩) hs.length ch := own_seat hD.2.2.1 hst
  obtain ⟨W, hW, BW, T⟩ : ∃ W, W = w1.alloc (.cells #[.slice (some ⟨g, 0, none⟩) n c, .slice (some ⟨gh, 0, none⟩) hs.length ch] 32) ∧ Below w1.heap.size w1 W ∧ W.heap[w1.heap.size]? = some (.cells #[.slice (some ⟨g, 0, none⟩) n c, .slice (some ⟨gh, 0, none⟩) hs.length ch] 32 (0, 0)) := ⟨_, rfl, (by repeat (first | exact bw_refl _ | assumption | apply bw_drewN | apply bw_drew | apply bw_alloc | refine bw_set ?_ (by simp) _)), heap_new _ _⟩
  replace hD := hD.below BW
  replace pb := pb.below BW
  have K := bw_trans J1 BW
  go_upto_region 4 with fail
  rw [← hW]
  clear hW BW J1
  have hPl := hD.plt
  obtain ⟨N, hNN⟩ : ∃ N, hs.length = N := ⟨_, rfl⟩
  have HN : Hid (hs.length = N) := hNN
  rw [hNN] at T hPl
  rw [hNN]
  clear hNN hst
  have hN3 : N ≤ 3 := by have := HN.out; omega
  obtain ⟨t0, t1⟩ := blk_2 T
  have zT := blk_lt T
  obtain ⟨hS, hHS⟩ : ∃ hS, hs.map LoopT.l = hS := ⟨_, rfl⟩
  rw [hHS] at hPl
  obtain ⟨ok, hok⟩ : ∃ ok, pathV l hS r pl = ok := ⟨_, rfl⟩
  have hbb : (ok != ok) = false := by simp
  have hb2 : (ok == ok) = true := by simp
  go_wp2_with fail
  refine (pathOk_any _ _ n c N ch l hS r _ m pc pl pmc ad _ (hs0.below K) hPl (pb.pts' ppl)).mono ?_
  rw [hok]
  rintro e w2 ⟨rfl, J⟩
  replace K := bw_trans K J
  replace T := keep J T
  replace hPl := hPl.below J
  replace pb := pb.below J
  clear J t0 t1
  obtain ⟨t0, t1⟩ := blk_2 T
  have hmz : m = 0 ∨ 0 < m := Nat.eq_zero_or_pos m
  rcases hmz with hm0 | hm0
  · subst hm0
    go_wp2_with fail
    refine (sPathOk_any _ _ n c N ch l hS r _ 0 pc pl _ hPl (pb.pts' ppl)).mono ?_
    rw [hok]
    rintro e w3 ⟨rfl, J⟩
    replace K := bw_trans K J
    replace T := keep J T
    replace hPl := hPl.below J
    replace pb := pb.below J
    clear J t0 t1
    obtain ⟨t0, t1⟩ := blk_2 T
    go_wp2_with fail
    refine (sPathOk_any _ _ n c N ch l hS r _ 0 pc pl _ hPl (pb.pts' ppl)).mono ?_
    rw [hok]
    rintro e w4 ⟨rfl, J⟩
    go_wp2_with fail
    go_ret
    exact ⟨by first | rfl | simp, bw_trans K J⟩
  have hmz : ((m : Int) == 0) = false := by simp; omega
  go_wp2_with fail
  refine (sPathOk_any _ _ n c N ch l hS r _ m pc pl _ hPl (pb.pts' ppl)).mono ?_
  rw [hok]
  rintro e w3 ⟨rfl, J⟩
  replace K := bw_trans K J
  replace T := keep J T
  replace hPl := hPl.below J
  replace pb := pb.below J
  clear J t0 t1
  rcases (pb.pts' ppl).2 with h0 | ⟨b, off, hbo, hbl, hcs⟩
  · omega
  cases hbo
  simp only [Nat.zero_add] at hcs
  have HC : Hid (∀ j, j < m → w3.cell? ⟨pg, j * 2, none⟩ = some (.int .i64 (ptAt pl j).1) ∧ w3.cell? ⟨pg, j * 2 + 1, none⟩ = some (.int .i64 (ptAt pl j).2)) := hcs
  have HL : Hid (pl.length = m) := ppl
  obtain ⟨t0, t1⟩ := reg_2 T
  obtain ⟨d0, d1⟩ := hcs 0 hm0
  rw [Nat.zero_mul] at d0 d1
  have q0 := cell_regrown d0
  have q1 := cell_regrown d1
  have i1 : (0 : Int) < (m : Int) := by omega
  obtain ⟨f0, hf0⟩ : ∃ f0, fitV l hS r (ptAt pl 0) = f0 := ⟨_, rfl⟩
  have HF0 : Hid (fitV l hS r (ptAt pl 0) = f0) := hf0
  have HF : Hid (∀ d os, Calls Tryz.prog 14 #[.agg #[.slice (some ⟨g, 0, none⟩) n c, .slice (some ⟨gh, 0, none⟩) N ch], .int .i64 r, .agg #[.int .i64 (ptAt pl 0).1, .int .i64 (ptAt pl 0).2]] (grow (redrawn w3 d) os) fun e W' => e = .returned (.bool f0) ∧ Below (grow (redrawn w3 d) os).heap.size (grow (redrawn w3 d) os) W') := fun d os => by
    have := toolFits_any _ _ n c N ch l hS r (ptAt pl 0) ad _ ((hs0.below K).below (below_regrown w3 d os)) (hPl.below (below_regrown w3 d os))
    rwa [hf0] at this
  clear hcs d0 d1 hf0
  go_wp2_with fail
  refine wp_region_quiet_below (by kernel_rfl) (by kernel_rfl) ?_
  repeat (first | go_big_quiet_step (first | (go_at_call 14; with_reducible exact Calls.regrown_of (HF.out _ _))))
  refine wpQuiet_nil ?_
  intro _ hw'
  obtain ⟨⟨dq, osq⟩, hw''⟩ := hw'
  subst hw''
  have J := below_regrown w3 dq osq
  generalize grow (redrawn w3 dq) osq = v3 at J ⊢
  have zJ := J.size
  replace K := bw_trans K J
  replace T := keep J T
  replace hPl := hPl.below J
  replace pb := pb.below J
  replace HC : Hid (∀ j, j < m → v3.cell? ⟨pg, j * 2, none⟩ = some (.int .i64 (ptAt pl j).1) ∧ v3.cell? ⟨pg, j * 2 + 1, none⟩ = some (.int .i64 (ptAt pl j).2)) := fun j hj => ⟨(J.cell (p := ⟨pg, j * 2, none⟩) hbl).trans (HC.out j hj).1, (J.cell (p := ⟨pg, j * 2 + 1, none⟩) hbl).trans (HC.out j hj).2⟩
  replace hbl : pg < v3.heap.size := by omega
  clear J t0 t1 q0 q1 HF zJ
  go_wp2_with fail
  go_loopw [9, 10] (fun cv i wr => ∃ (k : Nat) (bb : Bool), 1 ≤ k ∧ k ≤ m ∧ i = .int .i64 k ∧ cv = .bool bb ∧ (bb = true ↔ f0 = true ∧ ∀ j, j + 1 < k → mayV l hS r (ptAt pl j) (ptAt pl (j + 1)) = true) ∧ Below v3.heap.size v3 wr) (fun _ i _ => m - (intOf i).toNat)
  case atStart => exact ⟨1, f0, by omega, by omega, rfl, rfl, ⟨fun h => ⟨h, fun j hj => absurd hj (by omega)⟩, fun h => h.1⟩, bw_refl _⟩
  case round =>
    obtain ⟨k, bb, hk1, hk, rfl, rfl, hb, hnx⟩ := hrel
    have HB : Hid (bb = true ↔ f0 = true ∧ ∀ j, j + 1 < k → mayV l hS r (ptAt pl j) (ptAt pl (j + 1)) = true) := hb
    clear hb
    have KW := bw_trans K hnx
    obtain ⟨q, rfl⟩ : ∃ q, k = q + 1 := ⟨k - 1, by omega⟩
    by_cases hlt : q + 1 < m
    case pos =>
      have hsW := hs0.below KW
      have hPw := hPl.below hnx
      obtain ⟨d0, d1⟩ := HC.out q (by omega)
      obtain ⟨d2, d3⟩ := HC.out (q + 1) hlt
      have s0 := cell_regrown ((hnx.cell (p := ⟨pg, q * 2, none⟩) hbl).trans d0)
      have s1 := cell_regrown ((hnx.cell (p := ⟨pg, q * 2 + 1, none⟩) hbl).trans d1)
      have s2 := cell_regrown ((hnx.cell (p := ⟨pg, (q + 1) * 2, none⟩) hbl).trans d2)
      have s3 := cell_regrown ((hnx.cell (p := ⟨pg, (q + 1) * 2 + 1, none⟩) hbl).trans d3)
      obtain ⟨t0, t1⟩ := reg_2 (keep hnx T)
      have j1 : IntKind.i64.wrap ((q : Int)) = (q : Int) := wrap_small (by omega) (by omega)
      have j2 : (0 : Int) ≤ (q : Int) := Int.natCast_nonneg _
      have j3 : (q : Int) < (m : Int) := by omega
      have j4 : (0 : Int) ≤ ((q + 1 : Nat) : Int) := Int.natCast_nonneg _
      have j5 : ((q + 1 : Nat) : Int) < (m : Int) := by omega
      have j6 : (q : Int) + 1 < (m : Int) := by omega
      have j7 : IntKind.i64.wrap ((q : Int) + 1 + 1) = (q : Int) + 1 + 1 := wrap_small (by omega) (by omega)
      obtain ⟨mb, hmb⟩ : ∃ mb, mayV l hS r (ptAt pl q) (ptAt pl (q + 1)) = mb := ⟨_, rfl⟩
      have HM : Hid (∀ d os, Calls Tryz.prog 15 #[.agg #[.slice (some ⟨g, 0, none⟩) n c, .slice (some ⟨gh, 0, none⟩) N ch], .int .i64 r, .agg #[.int .i64 (ptAt pl q).1, .int .i64 (ptAt pl q).2], .agg #[.int .i64 (ptAt pl (q+1)).1, .int .i64 (ptAt pl (q+1)).2]] (grow (redrawn wr d) os) fun e W' => e = .returned (.bool mb) ∧ Below (grow (redrawn wr d) os).heap.size (grow (redrawn wr d) os) W') := fun d os => by
        have := toolMay_any _ _ n c N ch l hS r (ptAt pl q) (ptAt pl (q + 1)) ad _ (hsW.below (below_regrown wr d os)) (hPw.below (below_regrown wr d os))
        rwa [hmb] at this
      have HMB : Hid (mayV l hS r (ptAt pl q) (ptAt pl (q + 1)) = mb) := hmb
      clear hmb d0 d1 d2 d3
      cases bb
      case false =>
        go_wp2_with fail
        refine wp_region_quiet_below (by kernel_rfl) (by kernel_rfl) ?_
        repeat (first | go_big_quiet_step (fail))
        refine wpQuiet_nil ?_
        intro _ hw'
        obtain ⟨⟨dq, osq⟩, hw''⟩ := hw'
        subst hw''
        have J := below_regrown wr dq osq
        generalize grow (redrawn wr dq) osq = v4 at J ⊢
        go_wp2_with fail
        go_roundw
        case rel => exact ⟨q + 1 + 1, false, by omega, by omega, by simp, rfl, ⟨fun h => (by cases h), fun h => HB.out.2 ⟨h.1, fun j hj => h.2 j (by omega)⟩⟩, bw_trans hnx J⟩
        case measure => simp [intOf]; omega
      case true =>
        go_wp2_with fail
        refine wp_region_quiet_below (by kernel_rfl) (by kernel_rfl) ?_
        repeat (first | go_big_quiet_step (first | (go_at_call 15; with_reducible exact Calls.regrown_of (HM.out _ _))))
        refine wpQuiet_nil ?_
        intro _ hw'
        obtain ⟨⟨dq, osq⟩, hw''⟩ := hw'
        subst hw''
        have J := below_regrown wr dq osq
        generalize grow (redrawn wr dq) osq = v4 at J ⊢
        go_wp2_with fail
        go_roundw
        case rel => exact ⟨q + 1 + 1, mb, by omega, by omega, by simp, rfl, ⟨fun h => ⟨(HB.out.1 (by first | rfl | trivial)).1, fun j hj => (by rcases Nat.lt_or_ge (j + 1) (q + 1) with h' | h'; exact (HB.out.1 (by first | rfl | trivial)).2 j h'; obtain rfl : j = q := (by omega); rw [HMB.out]; exact h)⟩, fun h => (by rw [← HMB.out]; exact h.2 q (by omega))⟩, bw_trans hnx J⟩
        case measure => simp [intOf]; omega
    case neg =>
      obtain rfl : m = q + 1 := by omega
      have e1 : bb = ok := by
        rw [← hok, Bool.eq_iff_iff, pathV_steps (by rw [HL.out]; omega) (by rw [HL.out]; omega), HB.out, HF0.out, HL.out]
      subst e1
      clear HB HC HF0
      have hPw := hPl.below hnx
      have pbw := pb.below hnx
      have TW := keep hnx T
      have hsW := hs0.below KW
      have i6 : ¬ ((q : Int) + 1 < (q : Int) + 1) := by omega
      have HBk : ∀ V, Below wr.heap.size wr V → Calls Tryz.prog 16 #[.slice (some ⟨pg, 0, none⟩) (q + 1) pc] V fun e w' => ∃ g' c', e = .returned (.slice (some ⟨g', 0, none⟩) (q + 1) c') ∧ PtBlk w' g' c' pl.reverse (q + 1) ∧ q + 1 ≤ c' ∧ Below V.heap.size V w' := fun V hV =>
        (luBackward_ok pg (q + 1) pc pl V (pbw.below hV) HL.out (by omega) (by omega)).mono fun e w' ⟨g', c', he, hb, J⟩ => by
          rw [List.length_reverse, HL.out] at he hb
          exact ⟨g', c', he, hb, blk_room hb, J⟩
      have hrv : pathV l hS r pl.reverse = bb := by rw [pathV_rev]; exact hok
      have HBp : ∀ V g' c', Below wr.heap.size wr V → PtBlk V g' c' pl.reverse (q + 1) → q + 1 ≤ c' → Calls Tryz.prog 10 #[.agg #[.slice (some ⟨g, 0, none⟩) n c, .slice (some ⟨gh, 0, none⟩) N ch], .int .i64 r, .slice (some ⟨g', 0, none⟩) (q + 1) c'] V fun e w' => e = .returned (.bool bb) ∧ Below V.heap.size V w' := fun V g' c' hV hb hc => by
        have := pathOk_any _ _ n c N ch l hS r _ (q + 1) c' pl.reverse hc ad V (hsW.below hV) (hPw.below hV) (hb.pts' (by rw [List.length_reverse]; exact HL.out))
        rwa [hrv] at this
      have hS0 : (fun w' : World => w'.cell? ⟨w1.heap.size, 0, none⟩ = some (.slice (some ⟨g, 0, none⟩) n c) ∧ w'.cell? ⟨w1.heap.size, 1, none⟩ = some (.slice (some ⟨gh, 0, none⟩) N ch)) wr.drew := blk_2 TW
      have H := bw_drew (bw_refl wr)
      cases bb
      case false =>
        go_wp2_with fail
        refine wp_region_held (S := (fun w' : World => w'.cell? ⟨w1.heap.size, 0, none⟩ = some (.slice (some ⟨g, 0, none⟩) n c) ∧ w'.cell? ⟨w1.heap.size, 1, none⟩ = some (.slice (some ⟨gh, 0, none⟩) N ch))) hmx ?_
        refine wpAnyH_take (i := 0) (v := .bool false) rfl (by kernel_rfl) (by kernel_rfl) (by kernel_rfl) (fun _ _ _ h => h) (Or.inl ⟨by kernel_rfl, by rintro w' ⟨s1, s2⟩; go_simp⟩) hS0 ?_
        refine wpAnyH_take (i := 1) (v := .bool false) rfl (by kernel_rfl) (by kernel_rfl) (by kernel_rfl) (fun _ _ _ h => h) (Or.inl ⟨by kernel_rfl, by rintro w' ⟨s1, s2⟩; go_simp⟩) hS0 ?_
        refine wpAnyH_take (i := 2) (v := .bool true) rfl (by kernel_rfl) (by kernel_rfl) (by kernel_rfl) (fun _ _ _ h => h) (Or.inl ⟨by kernel_rfl, by rintro w' ⟨s1, s2⟩; go_simp⟩) hS0 ?_
        refine wpAnyH_take (i := 3) (v := .bool true) rfl (by kernel_rfl) (by kernel_rfl) (by kernel_rfl) (fun _ _ _ h => h) (Or.inl ⟨by kernel_rfl, by rintro w' ⟨s1, s2⟩; go_simp⟩) hS0 ?_
        refine wpAnyH_take (i := 4) (v := .agg #[.slice (some ⟨g, 0, none⟩) n c, .slice (some ⟨gh, 0, none⟩) N ch]) rfl (by kernel_rfl) (by kernel_rfl) (by kernel_rfl) (fun _ _ _ h => h) (Or.inl ⟨by kernel_rfl, by rintro w' ⟨s1, s2⟩; go_simp⟩) hS0 ?_
        refine wpAnyH_take (i := 5) (v := .int .i64 r) rfl (by kernel_rfl) (by kernel_rfl) (by kernel_rfl) (fun _ _ _ h => h) (Or.inl ⟨by kernel_rfl, by rintro w' ⟨s1, s2⟩; go_simp⟩) hS0 ?_
        refine wpAnyH_take (i := 6) (v := .slice (some ⟨pg, 0, none⟩) (q + 1) pc) rfl (by kernel_rfl) (by kernel_rfl) (by kernel_rfl) (fun _ _ _ h => h) (Or.inl ⟨by kernel_rfl, by rintro w' ⟨s1, s2⟩; go_simp⟩) hS0 ?_
        refine wpAnyH_take (i := 9) (v := .bool false) rfl (by kernel_rfl) (by kernel_rfl) (by kernel_rfl) (fun _ _ _ h => h) (Or.inl ⟨by kernel_rfl, by rintro w' ⟨s1, s2⟩; go_simp⟩) hS0 ?_
        refine wpAnyH_all (rs := [7]) (by kernel_rfl) (by simp) ?_
        intro i hi
        have h7 := List.mem_singleton.1 hi
        clear hi
        subst h7
        unfold wpOp
        simp only [List.getElem?_toArray, List.getElem?_cons_succ, List.getElem?_cons_zero]
        rw [if_pos (by kernel_rfl)]
        refine Or.inl ?_
        go_simp
        refine (HBk _ H).mono ?_
        rintro e x1 ⟨g2, c2, rfl, hb2', hc2, J⟩
        replace H := bw_trans H J
        have hS1 : (fun w' : World => w'.cell? ⟨w1.heap.size, 0, none⟩ = some (.slice (some ⟨g, 0, none⟩) n c) ∧ w'.cell? ⟨w1.heap.size, 1, none⟩ = some (.slice (some ⟨gh, 0, none⟩) N ch)) x1 := ⟨cellB J hS0.1, cellB J hS0.2⟩
        first | refine ⟨hS1, ?_⟩ | skip
        refine wpAnyH_all (rs := [8]) (by kernel_rfl) (by simp) ?_
        intro i hi
        have h7 := List.mem_singleton.1 hi
        clear hi
        subst h7
        unfold wpOp
        simp only [List.getElem?_toArray, List.getElem?_cons_succ, List.getElem?_cons_zero]
        rw [if_pos (by kernel_rfl)]
        refine Or.inl ?_
        go_simp
        refine (HBp _ g2 c2 H hb2' hc2).mono ?_
        rintro e x2 ⟨rfl, J2⟩
        replace H := bw_trans H J2
        have hS2 : (fun w' : World => w'.cell? ⟨w1.heap.size, 0, none⟩ = some (.slice (some ⟨g, 0, none⟩) n c) ∧ w'.cell? ⟨w1.heap.size, 1, none⟩ = some (.slice (some ⟨gh, 0, none⟩) N ch)) x2 := ⟨cellB J2 hS1.1, cellB J2 hS1.2⟩
        first | refine ⟨hS2, ?_⟩ | skip
        refine wpAnyH_take (i := 10) (v := .bool true) rfl (by kernel_rfl) (by kernel_rfl) (by kernel_rfl) (fun _ _ _ h => h) (Or.inl ⟨by kernel_rfl, by rintro w' ⟨s1, s2⟩; go_simp⟩) hS2 ?_
        refine wpAnyH_take (i := 11) (v := .bool true) rfl (by kernel_rfl) (by kernel_rfl) (by kernel_rfl) (fun _ _ _ h => h) (Or.inl ⟨by kernel_rfl, by rintro w' ⟨s1, s2⟩; go_simp⟩) hS2 ?_
        refine wpAnyH_take (i := 12) (v := .bool true) rfl (by kernel_rfl) (by kernel_rfl) (by kernel_rfl) (fun _ _ _ h => h) (Or.inl ⟨by kernel_rfl, by rintro w' ⟨s1, s2⟩; go_simp⟩) hS2 ?_
        refine wpAnyH_take (i := 13) (v := .bool false) rfl (by kernel_rfl) (by kernel_rfl) (by kernel_rfl) (fun _ _ _ h => h) (Or.inl ⟨by kernel_rfl, by rintro w' ⟨s1, s2⟩; go_simp⟩) hS2 ?_
        refine wpAnyH_take (i := 14) (v := .bool true) rfl (by kernel_rfl) (by kernel_rfl) (by kernel_rfl) (fun _ _ _ h => h) (Or.inl ⟨by kernel_rfl, by rintro w' ⟨s1, s2⟩; go_simp⟩) hS2 ?_
        refine wpAnyH_take (i := 15) (v := .bool true) rfl (by kernel_rfl) (by kernel_rfl) (by kernel_rfl) (fun _ _ _ h => h) (Or.inl ⟨by kernel_rfl, by rintro w' ⟨s1, s2⟩; go_simp⟩) hS2 ?_
        refine wpAnyH_take (i := 16) (v := undef) rfl (by kernel_rfl) (by kernel_rfl) (by kernel_rfl) (fun _ _ _ h => h) (Or.inr ⟨by kernel_rfl, rfl⟩) hS2 ?_
        refine wpAnyH_take (i := 17) (v := undef) rfl (by kernel_rfl) (by kernel_rfl) (by kernel_rfl) (fun _ _ _ h => h) (Or.inr ⟨by kernel_rfl, rfl⟩) hS2 ?_
        refine wpAnyH_take (i := 18) (v := undef) rfl (by kernel_rfl) (by kernel_rfl) (by kernel_rfl) (fun _ _ _ h => h) (Or.inr ⟨by kernel_rfl, rfl⟩) hS2 ?_
        refine wpAnyH_take (i := 19) (v := undef) rfl (by kernel_rfl) (by kernel_rfl) (by kernel_rfl) (fun _ _ _ h => h) (Or.inr ⟨by kernel_rfl, rfl⟩) hS2 ?_
        refine wpAnyH_take (i := 20) (v := undef) rfl (by kernel_rfl) (by kernel_rfl) (by kernel_rfl) (fun _ _ _ h => h) (Or.inr ⟨by kernel_rfl, rfl⟩) hS2 ?_
        refine wpAnyH_take (i := 21) (v := undef) rfl (by kernel_rfl) (by kernel_rfl) (by kernel_rfl) (fun _ _ _ h => h) (Or.inr ⟨by kernel_rfl, rfl⟩) hS2 ?_
        refine wpAnyH_take (i := 22) (v := undef) rfl (by kernel_rfl) (by kernel_rfl) (by kernel_rfl) (fun _ _ _ h => h) (Or.inr ⟨by kernel_rfl, rfl⟩) hS2 ?_
        refine wpAnyH_take (i := 23) (v := undef) rfl (by kernel_rfl) (by kernel_rfl) (by kernel_rfl) (fun _ _ _ h => h) (Or.inr ⟨by kernel_rfl, rfl⟩) hS2 ?_
        refine wpAnyH_take (i := 24) (v := .bool true) rfl (by kernel_rfl) (by kernel_rfl) (by kernel_rfl) (fun _ _ _ h => h) (Or.inl ⟨by kernel_rfl, by rintro w' ⟨s1, s2⟩; go_simp⟩) hS2 ?_
        refine wpAnyH_take (i := 25) (v := .bool true) rfl (by kernel_rfl) (by kernel_rfl) (by kernel_rfl) (fun _ _ _ h => h) (Or.inl ⟨by kernel_rfl, by rintro w' ⟨s1, s2⟩; go_simp⟩) hS2 ?_
        refine wpAnyH_take (i := 26) (v := .bool true) rfl (by kernel_rfl) (by kernel_rfl) (by kernel_rfl) (fun _ _ _ h => h) (Or.inl ⟨by kernel_rfl, by rintro w' ⟨s1, s2⟩; go_simp⟩) hS2 ?_
        refine wpAnyH_done (by kernel_rfl) ?_ _
        try simp only [Exit.then]
        go_wp2_with fail
        go_ret
        exact ⟨by first | rfl | simp, bw_trans KW H⟩
      case true =>
        obtain ⟨hr, hv, ht⟩ := pathV_parts hok
        obtain ⟨hr1, hr2⟩ := (rV_iff r).1 hr
        have hrz : (r = 0) = False := by simp; omega
        obtain ⟨mm, hmm⟩ : ∃ mm, (len1 : Int) % r = mm := ⟨_, rfl⟩
        have hm00 : 0 ≤ mm := by rw [← hmm]; exact Int.emod_nonneg _ (by omega)
        have hm1 : mm < r := by rw [← hmm]; exact Int.emod_lt_of_pos _ (by omega)
        have htm : (len1 : Int).tmod r = mm := by rw [Int.tmod_eq_emod_of_nonneg (by omega)]; exact hmm
        have hwm : IntKind.i64.wrap mm = mm := wrap_small (by omega) (by omega)
        have hw1 : IntKind.i64.wrap (1 + mm) = 1 + mm := wrap_small (by omega) (by omega)
        have hless : pathV l hS (1 + mm) pl = true := pathV_less (by omega) (by omega) hok
        have HBl : ∀ V, Below wr.heap.size wr V → Calls Tryz.prog 10 #[.agg #[.slice (some ⟨g, 0, none⟩) n c, .slice (some ⟨gh, 0, none⟩) N ch], .int .i64 (1 + mm), .slice (some ⟨pg, 0, none⟩) (q + 1) pc] V fun e w' => e = .returned (.bool true) ∧ Below V.heap.size V w' := fun V hV => by
          have := pathOk_any _ _ n c N ch l hS (1 + mm) _ (q + 1) pc pl pmc ad V (hsW.below hV) (hPw.below hV) ((pbw.below hV).pts' HL.out)
          rwa [hless] at this
        clear hless hok hrv hr hv ht hmm
        go_wp2_with fail
        go_region_held3 (fun w' : World => w'.cell? ⟨w1.heap.size, 0, none⟩ = some (.slice (some ⟨g, 0, none⟩) n c) ∧ w'.cell? ⟨w1.heap.size, 1, none⟩ = some (.slice (some ⟨gh, 0, none⟩) N ch))
          (first | exact ⟨cellB J hS0.1, cellB J hS0.2⟩ | exact hS0)
          (first
            | (go_at_call 16; refine (HBk _ H).mono ?_; rintro e x1 ⟨g2, c2, rfl, hb2', hc2, J⟩; replace H := bw_trans H J; replace hS0 : (fun w' : World => w'.cell? ⟨w1.heap.size, 0, none⟩ = some (.slice (some ⟨g, 0, none⟩) n c) ∧ w'.cell? ⟨w1.heap.size, 1, none⟩ = some (.slice (some ⟨gh, 0, none⟩) N ch)) x1 := ⟨cellB J hS0.1, cellB J hS0.2⟩)
            | (go_at_call 10; (with_reducible refine (HBl _ H).mono ?_); rintro e x2 ⟨rfl, J⟩; replace H := bw_trans H J; replace hS0 : (fun w' : World => w'.cell? ⟨w1.heap.size, 0, none⟩ = some (.slice (some ⟨g, 0, none⟩) n c) ∧ w'.cell? ⟨w1.heap.size, 1, none⟩ = some (.slice (some ⟨gh, 0, none⟩) N ch)) x2 := ⟨cellB J hS0.1, cellB J hS0.2⟩)
            | (go_at_call 10; refine (HBp _ g2 c2 H hb2' hc2).mono ?_; rintro e x2 ⟨rfl, J⟩; replace H := bw_trans H J; replace hb2' := hb2'.below J; replace hS0 : (fun w' : World => w'.cell? ⟨w1.heap.size, 0, none⟩ = some (.slice (some ⟨g, 0, none⟩) n c) ∧ w'.cell? ⟨w1.heap.size, 1, none⟩ = some (.slice (some ⟨gh, 0, none⟩) N ch)) x2 := ⟨cellB J hS0.1, cellB J hS0.2⟩))
        all_goals go_wp2_with fail
        all_goals go_ret
        all_goals exact ⟨by first | rfl | simp, bw_trans KW H⟩
end Go.Proofs.YtkncejcpeejkkaaGreatDoor
namespace Go.Proofs.YtkncejcpeejkkaaGreatDoor
open Go.ChangeShapes Go.WideShapes Go.ChangeAt Go.RowKit

theorem own : ownKnob Tryz.prog.godebug = none := by kernel_rfl
theorem laidOut : laidOutB Tryz.prog = true := by kernel_rfl
theorem gE : Tryz.prog.globalNamed "loop.example/mortiser/impl.errNoFrac" = some 0 := by kernel_rfl
theorem gEType : (Tryz.prog.globals[0]?).map (·.type) = some 123 := by kernel_rfl
theorem cellsES : Tryz.prog.cellsOf 187 = 1 := by kernel_rfl
theorem cellsStr : Tryz.prog.cellsOf 9 = 1 := by kernel_rfl
theorem star : "*" ++ "errors.errorString" = "*errors.errorString" := by decide
theorem rowES (u : TypeId) (h : Tryz.prog.typeName? 3 u = some "*errors.errorString") : u = 161 :=
  typeName_ptr_named (nm := "errors.errorString") (by rw [star]; kernel_rfl) (by kernel_rfl) (by decide) u (by rw [star]; exact h)

/-- What the list gives: the variable holds a pointer to an error of errors.New's make. -/
theorem sent_of_met {W : World} (h : laidMet Tryz.prog [("loop.example/mortiser/impl.errNoFrac", Rows.laid_loop_example_mortiser_impl_errNoFrac)] W) :
    ∃ a, W.var? Tryz.prog "loop.example/mortiser/impl.errNoFrac" = some #[.iface 161 (.pointer (some a))] ∧ Sent a W := by
  obtain ⟨a, s, hv, _, _, _⟩ := laid_sentinel h gE gEType Tryz.underlying123 rowES Tryz.underlying161 Tryz.underlying187 rfl rfl Tryz.underlying9 cellsES cellsStr
  exact ⟨a, hv, by simpa [Sent] using World.var?_cell gE hv 0⟩
theorem sent_of_laid {W : World} (h : laidMetH Tryz.prog [("loop.example/mortiser/impl.errNoFrac", Rows.laid_loop_example_mortiser_impl_errNoFrac)] W) :
    ∃ a, W.var? Tryz.prog "loop.example/mortiser/impl.errNoFrac" = some #[.iface 161 (.pointer (some a))] ∧ Sent a W := by
  rw [MakeChecks.laidMetH_plain _ _ _ (by kernel_rfl)] at h
  exact sent_of_met h

/-- The variable read again as a token. -/
theorem vars_again {H : Type} (enc : TypeId × Value → H) {X : World} {a : Addr} (hv : X.var? Tryz.prog "loop.example/mortiser/impl.errNoFrac" = some #[.iface 161 (.pointer (some a))]) (sp : Nat → Bool) :
    DataW.TrodVars enc Tryz.prog X sp ["loop.example/mortiser/impl.errNoFrac"] [tok enc (.iface 161 (.pointer (some a)))] [.cell 0 0] :=
  vars_read1 enc gE gEType Tryz.underlying123 hv trivial sp

/-- The door's own heap meets the condition. -/
theorem door_met (os : Os) (args : Array Value) : laidMetH Tryz.prog [("loop.example/mortiser/impl.errNoFrac", Rows.laid_loop_example_mortiser_impl_errNoFrac)] ((World.doorLaid Tryz.prog 28 os).forCall (fun _ _ => 0) ⟨#[], args, []⟩).memory :=
  laidMetH_of_parts3 (fuel := 8) (laidMet_of_run' 8 (by kernel_rfl) (by kernel_rfl)) (by kernel_rfl) (by kernel_rfl)
end Go.Proofs.YtkncejcpeejkkaaGreatDoor
namespace Go.Proofs.YtkncejcpeejkkaaGreatDoor
open Go.ChangeShapes Go.WideShapes Go.ChangeAt Go.RowKit Go.Joins
open Go.ChangeMaps (open_string shut_string)

set_option maxRecDepth 100000 in
theorem fnPathStep_lifted (os : Os) (started : os.Started) (H : Type) (enc : TypeId × Value → H) :
    ReturnsInHanded {} Tryz.checked os 4 .any (fun w args => (Rows.fnPathStepSpec.pre enc Tryz.prog Tryz.f4 [] false w args ∧ laidMetH Tryz.prog Rows.fnPathStepRow.laid w) ∧ sizedMet enc Tryz.prog Tryz.f4 (OpenSpec.ofChange Rows.fnPathStepSpec) false w args)
      (Rows.fnPathStepSpec.post enc Tryz.prog Tryz.f4 false true false false) := by
  refine returnsInHanded_of_change_and (C := Tryz.checked) (X := fun w _ => laidMetH Tryz.prog Rows.fnPathStepRow.laid w) (fun _ _ _ hh h => h.of_heap hh) own started (by kernel_rfl) Tryz.func4
    (ChangeSpec.witness_shaped (enc := enc) (C := Tryz.checked) (os := os) (X := fun w _ => laidMetH Tryz.prog Rows.fnPathStepRow.laid w) false (World.doorLaid Tryz.prog 28 os) #[.slice none 0 0, .slice none 0 0] 8 rfl (World.shaped_of_RefB (by kernel_rfl) (by kernel_rfl)) (by kernel_rfl) (by kernel_rfl) (by kernel_rfl) (door_met os _)) ?_
  intro W base args ds gs before hval0 hW _ _ hL _
  have hval : ∀ (j : Nat) t v, Tryz.f4.params[j]? = some t → args[j]? = some v → Value.okWide Tryz.prog W .any base t v := hval0
  have hW' := hW
  obtain ⟨p, q, hA0, hV, rfl, hfz, hnd⟩ := hW
  have hA : DataW.TrodAll enc Tryz.prog W 0 (fun _ => true) true Tryz.f4.params.toList args.toList ds p := hA0
  rw [Tryz.params4] at hA hval
  obtain ⟨v0, vs0, d0, ds0, p0, q0, hargs, rfl, rfl, h0, r0⟩ := trodAll_cons hA
  obtain ⟨v1, vs1, d1, ds1, p1, q1, rfl, rfl, rfl, h1, r1⟩ := trodAll_cons r0
  obtain ⟨rfl, rfl, rfl⟩ := trodAll_nil r1
  obtain rfl : args = #[v0, v1] := by cases args; simp_all
  obtain ⟨a, hvar, hs⟩ := sent_of_laid hL
  obtain ⟨rfl, rfl⟩ := hV.unique (vars_again enc hvar _)
  have k0 := h0
  have lt0 : ∀ x ∈ p0, x.block < W.heap.size := by obtain ⟨m, hm⟩ := k0; exact DataW.trod_lt m _ _ _ hm
  obtain ⟨a0, len0, cap0, rfl⟩ := okWide_slice Tryz.underlying38 (hval 0 38 v0 rfl rfl)
  obtain ⟨z0, w0⟩ : ∃ zs, IsRow .u8 W a0 len0 cap0 zs := by
    obtain ⟨fuel, hf⟩ := h0
    rcases open_ints Tryz.underlying38 Tryz.underlying5 (by kernel_rfl) hf with ⟨hcs, _⟩ | ⟨x, l, c, zs, hcs, _, hl, hm, hz, _, hcell, hwz⟩
    · simp [Value.cells] at hcs
      obtain ⟨rfl, rfl, rfl⟩ := hcs
      exact ⟨[], .inl ⟨rfl, rfl, rfl, rfl⟩⟩
    · simp [Value.cells] at hcs
      obtain ⟨rfl, rfl, rfl⟩ := hcs
      exact ⟨zs, .inr ⟨_, rfl, hl, hm, by simpa using hz, hcell, hwz⟩⟩
  have k1 := h1
  have lt1 : ∀ x ∈ p1, x.block < W.heap.size := by obtain ⟨m, hm⟩ := k1; exact DataW.trod_lt m _ _ _ hm
  obtain ⟨a1, len1, cap1, rfl⟩ := okWide_slice Tryz.underlying38 (hval 1 38 v1 rfl rfl)
  obtain ⟨z1, w1⟩ : ∃ zs, IsRow .u8 W a1 len1 cap1 zs := by
    obtain ⟨fuel, hf⟩ := h1
    rcases open_ints Tryz.underlying38 Tryz.underlying5 (by kernel_rfl) hf with ⟨hcs, _⟩ | ⟨x, l, c, zs, hcs, _, hl, hm, hz, _, hcell, hwz⟩
    · simp [Value.cells] at hcs
      obtain ⟨rfl, rfl, rfl⟩ := hcs
      exact ⟨[], .inl ⟨rfl, rfl, rfl, rfl⟩⟩
    · simp [Value.cells] at hcs
      obtain ⟨rfl, rfl, rfl⟩ := hcs
      exact ⟨zs, .inr ⟨_, rfl, hl, hm, by simpa using hz, hcell, hwz⟩⟩
  clear hA0 hval0
  refine (pathStep_walk W a0 len0 cap0 z0 w0 a1 len1 cap1 z1 w1 a hs).mono fun e W' ⟨he, bel⟩ => ?_
  subst he
  exact ⟨_, rfl, _, _, _, [], _, [.cell 0 0], hW', trodAll_mk1 (shut_bool Tryz.underlying4 _), (trodAll_cons_mk (Below.trod laidOut (by kernel_rfl) (of_decide_eq_true (by kernel_rfl)) k0 bel lt0) (trodAll_cons_mk (Below.trod laidOut (by kernel_rfl) (of_decide_eq_true (by kernel_rfl)) k1 bel lt1) trodAll_mk0)), vars_again enc (var?_below bel gE hs.lt hvar) _, bel.frame _, fun h => by cases h⟩

theorem fnPathStep_said : Rows.FnPathStepSaid :=
  OpenClaim.holds_of_wide 4 Tryz.f4 rfl rfl rfl rfl rfl rfl rfl ⟨rfl, rfl, rfl, rfl, rfl⟩ rfl rfl rfl rfl rfl (by kernel_rfl) Tryz.func4 (by kernel_rfl)
    (of_decide_eq_true (by kernel_rfl)) (by unfold Func.isWrapper; first | (rw [if_pos (by decide +kernel)]; kernel_rfl) | (rw [if_neg (by decide +kernel)]; exact ⟨rfl, rfl⟩))
    (fun os started H enc _ => fnPathStep_lifted os started H enc)

theorem fnPathStep_plain (f : FuncId) (fn : Func) (hf : Tryz.pinned.checked.prog.funcNamed "loop.example/mortiser/laws.FnPathStep" = some f) (hfn : Tryz.pinned.checked.prog.funcs[f]? = some fn) :
    true = Tryz.pinned.checked.prog.looks [] ∧ ∀ (j : Nat) t, fn.params[j]? = some t → Tryz.pinned.checked.prog.wantsStandIn t = false := by
  obtain rfl : f = 4 := Option.some.inj ((show Tryz.prog.funcNamed "loop.example/mortiser/laws.FnPathStep" = some 4 by kernel_rfl).symm.trans hf) |>.symm
  obtain rfl : fn = Tryz.f4 := (Option.some.inj (Tryz.func4.symm.trans hfn)).symm
  refine ⟨by kernel_rfl, fun j t ht => ?_⟩
  rw [Tryz.params4] at ht
  have hm := Array.mem_of_getElem? ht
  simp only [List.mem_toArray, List.mem_cons, List.not_mem_nil, or_false] at hm
  rcases hm with rfl | rfl
  · exact (show Tryz.prog.wantsStandIn 38 = false by kernel_rfl)
  · exact (show Tryz.prog.wantsStandIn 38 = false by kernel_rfl)

/-- THE STATEMENT. -/
theorem fnPathStep_card : Rows.FnPathStepCardSaid :=
  Claim7.holds_tied_plain_at .later [] _ _ _ _ fnPathStep_said (fun _ h => by cases h) (by kernel_rfl) (fun _ h => by cases h) fnPathStep_row_tie rfl ⟨rfl, rfl⟩ (by kernel_rfl) rfl fnPathStep_plain (by kernel_rfl)
end Go.Proofs.YtkncejcpeejkkaaGreatDoor
