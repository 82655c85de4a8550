/-
  OUR OWN TEXT. The law FnExactPathOk, for every input: the call returns true, and each argument reads as it did. Texts of ours, joined, so that the claim keeps to its number of files. Conditions: none but the row's own.
-/
import Derived.Test.YtkncejcpeejkkaaGreatDoorRangeO
import Derived.Test.YtkncejcpeejkkaaGreatDoorEdgeS
import Derived.Test.YtkncejcpeejkkaaGreatDoorEqSegs
import Derived.Test.YtkncejcpeejkkaaGreatDoorRings
import Derived.Test.YtkncejcpeejkkaaGreatDoorFree
import Derived.Test.YtkncejcpeejkkaaGreatDoorWhere
import Derived.Test.YtkncejcpeejkkaaGreatDoorRangeS
import Derived.Test.YtkncejcpeejkkaaGreatDoorMath
import Derived.Test.YtkncejcpeejkkaaGreatDoorBw
import Derived.WalkKit
import Derived.Deep.QuietTactic
import Derived.BigQuiet
import Derived.Test.YtkncejcpeejkkaaGreatDoorChecked
import Derived.LaidEql
import Derived.Stop.Asserts
import Derived.RowKitTokens
import Derived.Deep.RegionWith
import Derived.Below
import Derived.Test.YtkncejcpeejkkaaGreatDoorBoxes
import Derived.Deep.RegionHeld3
import Derived.Test.YtkncejcpeejkkaaGreatDoorSHas
import Derived.Laws.EntriesVeiled
import Derived.Test.YtkncejcpeejkkaaGreatDoorGeoApart
import Derived.Test.YtkncejcpeejkkaaGreatDoorPlateI
import Derived.Test.YtkncejcpeejkkaaGreatDoorBoard
namespace Go.Proofs.YtkncejcpeejkkaaGreatDoor
open Go.RowKit Go.Shelf
attribute [local go_sem] Oper.semAt_some

/-- A segment, as it is handed on. -/
def segE (s : P2 × P2) : Array Value := #[.agg #[.int .i64 s.1.1, .int .i64 s.1.2, .int .i64 s.2.1, .int .i64 s.2.2]]
/-- What a round keeps: all that lay below n₀, and every box of points or of a yield. -/
def KT (n₀ : Nat) (W W' : World) : Prop := Below n₀ W W' ∧ ∀ (k : Nat) (cs : Array Value) (t : TypeId), (t = 29 ∨ t = 93) → W.heap[k]? = some (Obj.cells cs t (0, 0)) → W'.heap[k]? = some (Obj.cells cs t (0, 0))
theorem KT.refl (n₀ : Nat) (W : World) : KT n₀ W W := ⟨Below.refl _ _, fun _ _ _ _ h => h⟩
theorem KT.trans {n₀ : Nat} {A B C : World} (h : KT n₀ A B) (k : KT n₀ B C) : KT n₀ A C := ⟨h.1.trans k.1, fun i cs t ht h0 => k.2 i cs t ht (h.2 i cs t ht h0)⟩
theorem KT_t {n₀ : Nat} : ∀ {A B C : World}, KT n₀ A B → KT n₀ B C → KT n₀ A C := fun h k => h.trans k
theorem KT_b {n₀ : Nat} {w : World} (hn : n₀ ≤ w.heap.size) : ∀ (W : World) (l : Nat) (o o' : Obj), w.heap.size ≤ l → W.heap[l]? = some o → o.isCells = false → o.isWalk = false → KT n₀ W (W.putObj l o') :=
  fun W l o o' hl ho h1 h2 => ⟨belowK_b hn W l o o' hl ho h1 h2, fun k cs t _ h => by
    refine (World.putObj_heap_other (fun e => ?_)).trans h
    subst e; rw [h] at ho; cases ho; cases h1⟩
theorem KT.of_below {n₀ : Nat} {W W' : World} (h : Below W.heap.size W W') (hn : n₀ ≤ W.heap.size) : KT n₀ W W' := ⟨h.mono hn, fun k _ _ _ h0 => (h.block k (Array.getElem?_eq_some_iff.1 h0).1).trans h0⟩
theorem KT.lies {n₀ b : Nat} {cs : Array Value} {t : TypeId} {W W' : World} (h : KT n₀ W W') (ht : t = 29 ∨ t = 93) (hL : Lies b cs t W) : Lies b cs t W' := h.2 b cs t ht hL
/-- A list of loops, all below n₀. -/
def RingN (n₀ : Nat) (W : World) : Option Addr → List RingT → Prop
  | p, [] => p = none
  | p, x :: xs => ∃ (b : Nat) (q : Option Addr) (t : TypeId), p = some ⟨b, 0, none⟩ ∧ b < n₀ ∧ Lies b #[.slice x.a x.len x.cap, .pointer q] t W ∧ x.len ≤ 1048576 ∧ Pts n₀ W x.a x.len x.pts ∧ RingN n₀ W q xs
theorem RingN.keep {n₀ : Nat} {W V : World} (h : Below n₀ W V) : ∀ {p : Option Addr} {xs : List RingT}, RingN n₀ W p xs → RingN n₀ V p xs
  | _, [], hl => hl
  | _, _ :: _, ⟨b, q, t, hp, hb, hL, hl, hP, hr⟩ => ⟨b, q, t, hp, hb, (h.block b hb).trans hL, hl, hP.below h, RingN.keep h hr⟩
theorem RingL.ringN {n₀ : Nat} {W : World} (hn : W.heap.size ≤ n₀) : ∀ {p : Option Addr} {xs : List RingT}, RingL n₀ W p xs → RingN n₀ W p xs
  | _, [], hl => hl
  | _, _ :: _, ⟨b, q, t, hp, hL, hl, hP, hr⟩ => ⟨b, q, t, hp, Nat.lt_of_lt_of_le hL.lt hn, hL, hl, hP, RingL.ringN hn hr⟩
theorem RingN.ringL {n₀ : Nat} {W : World} : ∀ {p : Option Addr} {xs : List RingT}, RingN n₀ W p xs → RingL n₀ W p xs
  | _, [], hl => hl
  | _, _ :: _, ⟨b, q, t, hp, _, hL, hl, hP, hr⟩ => ⟨b, q, t, hp, hL, hl, hP, RingN.ringL hr⟩
/-- A function that has ended some loops leaves: no call was deferred in any round. -/
theorem leaves_marks {fn : Func} {n : Nat} {P : Program} {tmps : Array Value} {R : Ending → World → Prop} (G : World → Prop) (B : Nat) (hG : ∀ V D o, B ≤ D → V.heap[D]? = some (.deferred (some [])) → G V → G (V.putObj D o)) (hres : ∀ V, G V → ∃ v, (results fn tmps).run P V = .ok v V ∧ R (.returned v) V) :
    ∀ (ds : List Nat) (V : World), ds.Nodup → (∀ D ∈ ds, B ≤ D ∧ V.heap[D]? = some (.deferred (some []))) → G V → LeavesInM Fence.wide n P fn tmps R (ds.map fun D => { target := .collected D, args := #[] }) .returning V
  | [], V, _, _, hg => hres V hg
  | D :: ds, V, hnd, hd, hg => by
    obtain ⟨hB, hD⟩ := hd D (by simp)
    refine ⟨by simp, .inl ⟨D, _, rfl, run_takeDeferred hD, ?_⟩⟩
    rw [List.nodup_cons] at hnd
    refine leaves_marks G B hG hres ds _ hnd.2 (fun E hE => ?_) (hG V D _ hB hD hg)
    obtain ⟨h1, h2⟩ := hd E (by simp [hE])
    exact ⟨h1, (World.putObj_heap_other (fun e => hnd.1 (by rw [← e]; exact hE))).trans h2⟩
theorem roundIn_any {m m' l : Nat} {P : Program} {f : FuncId} {tmps : Array Value} {assign body : Code} {w : World} {R : Ending → World → Prop} (h : RoundIn Fence.wide m P l f tmps assign body w R) (l' : Nat) : RoundIn (Fence.wide.inRound l') m' P l f tmps assign body w R :=
  ⟨h.1, fun c cs _ => h.2 c cs (room_wide _)⟩
theorem segsL_fin (pts : List P2) : ((List.finRange pts.length).map fun k => (ptAt pts k.1, ptAt pts (nxt pts k.1))) = segsL pts := fin_map' pts.length (fun k => (ptAt pts k, ptAt pts (nxt pts k)))
def edgR (rs : List RingT) : List (P2 × P2) := rs.flatMap fun x => segsL x.pts
set_option maxRecDepth 100000 in
set_option maxHeartbeats 4000000 in
theorem ringE_seq (n : Nat) (hn : 6 ≤ n) (B n₀ : Nat) (q : Option Addr) (rs : List RingT) (w : World) (hB : w.cell? ⟨B, 0, none⟩ = some (.pointer q)) (hn₀ : n₀ ≤ w.heap.size) (hR : RingN n₀ w q rs) :
    SeqO Fence.wide n Tryz.prog 86 #[.pointer (some ⟨B, 0, none⟩)] segE (KT n₀) (edgR rs) w := by
  intro l J W hW hJ hY h0
  have zBw : B < w.heap.size := World.block_lt_of_cell? _ _ hB
  have hBW := (hW.cell (p := ⟨B, 0, none⟩) zBw).trans hB
  have hRW := hR.keep (hW.mono hn₀)
  have zW := hW.size
  have zB : B < W.heap.size := by omega
  have h1 : 1 ≤ n := by omega
  refine callsIn_of_wp_marks Tryz.func86 rfl trivial ?_ rfl
  simp only [Tryz.ntmps86, List.size_toArray, List.length_cons, List.length_nil, Nat.reduceAdd, Nat.reduceSub, Array.replicate_succ, Array.replicate_zero, List.push_toArray, List.append_toArray, List.nil_append, List.cons_append]
  gi_wp2
  refine wpIn_loop (fun a V => ∃ (dn rest : List RingT) (p : Option Addr) (ds : List Nat) (u7 u8 u9 u10 u11 u12 u13 u14 u15 u16 u17 : Value), rs = dn ++ rest ∧ RingN n₀ V p rest ∧ J (edgR dn) V ∧ KT n₀ W V ∧ Lies W.heap.size #[.func (.yield l) #[] #[]] 93 V ∧ (∀ D ∈ ds, W.heap.size ≤ D ∧ V.heap[D]? = some (.deferred (some []))) ∧ ds.Nodup ∧
      a = { tmps := #[.func (.yield l) #[] #[], .pointer (some ⟨B, 0, none⟩), .pointer (some ⟨W.heap.size, 0, none⟩), .pointer p, undef, undef, .pointer q, u7, u8, u9, u10, u11, u12, u13, u14, u15, u16, u17, undef, undef, undef, undef, undef, undef], defers := ds.map fun D => { target := .collected D, args := #[] } })
    (fun a V => ringsLeft V (a.tmps.getD 3 undef)) ?start ?round
  case start =>
    refine ⟨[], rs, q, [], undef, undef, undef, undef, undef, undef, undef, undef, undef, undef, undef, rfl, hRW.keep ((Below.refl _ W).alloc (by omega) _), ?_, KT.of_below ((Below.refl _ W).alloc (Nat.le_refl _) _) (by omega), Lies.new W _ _, fun D hD => by simp at hD, by simp, rfl⟩
    exact hJ.alloc _ h0
  case round =>
    rintro a V ⟨dn, rest, p, ds, u7, u8, u9, u10, u11, u12, u13, u14, u15, u16, u17, hrs, hRV, hJV, hkt, LY, hds, hnd, rfl⟩
    cases rest with
    | nil =>
      obtain rfl : p = none := hRV
      gi_wp2
      rw [List.append_nil] at hrs
      subst hrs
      exact leaves_marks (fun V => J (edgR rs) V) W.heap.size (fun V D o hBD hD hj => hJ.putObj _ hj hBD hD rfl) (fun V hg => ⟨_, results_none rfl _ _ _, ⟨_, rfl⟩, hg⟩) ds V hnd hds hJV
    | cons y ys =>
      obtain ⟨b, q', t, rfl, hb, hL, hyl, hP, hr⟩ := hRV
      obtain ⟨c0, c1, _, _⟩ := lies2 hL
      have zV := hkt.1.size
      have hdsV : ∀ D ∈ ds, D < V.heap.size := fun D hD => (Array.getElem?_eq_some_iff.1 (hds D hD).2).1
      gi_wp2_with (refine ⟨trivial, ?_⟩; gi_at_call 87; refine (edges_in (n - 1) _ _ _ _).mono ?_; rintro e w' ⟨rfl, rfl⟩)
      have BL : Lies V.heap.size #[.slice y.a y.len y.cap] 29 (V.alloc (.cells #[.slice y.a y.len y.cap] 29)) := Lies.new V _ _
      have hBV : Below V.heap.size V (V.alloc (.cells #[.slice y.a y.len y.cap] 29)) := (by repeat (first | exact bw_refl _ | assumption | apply bw_drewN | apply bw_drew | apply bw_alloc | refine bw_set ?_ (by simp) _))
      have hJ2 : J (edgR dn) (V.alloc (.cells #[.slice y.a y.len y.cap] 29)) := hJ.alloc _ hJV
      have LY2 := LY.below hBV
      have hds2 : ∀ D ∈ ds, W.heap.size ≤ D ∧ (V.alloc (.cells #[.slice y.a y.len y.cap] 29)).heap[D]? = some (.deferred (some [])) := fun D hD => ⟨(hds D hD).1, (hBV.block D (hdsV D hD)).trans (hds D hD).2⟩
      have hP2 : Pts n₀ (V.alloc (.cells #[.slice y.a y.len y.cap] 29)) y.a y.len y.pts := hP.below (hBV.mono (by omega))
      have hK2 : KT n₀ V (V.alloc (.cells #[.slice y.a y.len y.cap] 29)) := KT.of_below hBV (by omega)
      have hsz : (V.alloc (.cells #[.slice y.a y.len y.cap] 29)).heap.size = V.heap.size + 1 := by simp
      obtain ⟨V2, hV2⟩ : ∃ V2, V.alloc (.cells #[.slice y.a y.len y.cap] 29) = V2 := ⟨_, rfl⟩
      rw [hV2] at BL hBV hJ2 LY2 hds2 hP2 hK2 hsz ⊢
      clear hV2
      have hst := edges_stops (n - 1) (by omega) V.heap.size n₀ y.a y.len y.cap y.pts V2 (by omega) (by omega) hyl BL.c1 hP2
      refine wpIn_rangeFunc_ownH rfl h1 (gf := 104) (lb := #[.pointer (some ⟨V.heap.size, 0, none⟩)]) rfl trivial (enters_of Tryz.func104 (by kernel_rfl) rfl)
        hst KB_t (KB_b (by omega) (by omega)) (Below.refl _ _) (fun _ => rfl)
        (fun pre V3 => (J (edgR dn ++ pre.map fun k => (ptAt y.pts k.1, ptAt y.pts (nxt y.pts k.1))) V3 ∧ Lies W.heap.size #[.func (.yield l) #[] #[]] 93 V3 ∧ Lies V.heap.size #[.slice y.a y.len y.cap] 29 V3 ∧ ∀ D ∈ ds, W.heap.size ≤ D ∧ V3.heap[D]? = some (.deferred (some []))) ∧ KT n₀ V V3)
        (fun _ _ _ => False)
        (fun s X Y row hs hg hr => ⟨⟨hJ _ X Y row hs.1.1 hg (fun r e => ⟨by have := (hr r e).1; omega, (hr r e).2⟩), lies_own (β := Unit) _ _ _ () X Y row hs.1.2.1 hg (fun r e => (hr r e).2), lies_own (β := Unit) _ _ _ () X Y row hs.1.2.2.1 hg (fun r e => (hr r e).2), fun D hD => ⟨(hs.1.2.2.2 D hD).1, (hg.block D (Array.getElem?_eq_some_iff.1 (hs.1.2.2.2 D hD).2).1 (fun e => by have := (hr D e.symm).1; have := hdsV D hD; omega)).trans (hs.1.2.2.2 D hD).2⟩⟩, ⟨ownFrom_below (β := Unit) (n₀ := n₀) (B := V2.heap.size) (w₀ := V) (by omega) (by omega) () X Y row hs.2.1 hg hr, fun k cs t ht h => (hg.block k (Array.getElem?_eq_some_iff.1 (hs.2.2 k cs t ht h)).1 (fun e => by obtain ⟨_, o, ho, hc⟩ := hr k e.symm; rw [hs.2.2 k cs t ht h] at ho; cases ho; cases hc)).trans (hs.2.2 k cs t ht h)⟩⟩)
        (fun c => ownFrom_pure _ _)
        ⟨⟨by simpa using hJ2, LY2, BL, hds2⟩, hK2⟩
        (fun x a' V3 => ∃ Bx, Lies Bx #[.int .i64 (ptAt y.pts x.1).1, .int .i64 (ptAt y.pts x.1).2, .int .i64 (ptAt y.pts (nxt y.pts x.1)).1, .int .i64 (ptAt y.pts (nxt y.pts x.1)).2] 75 V3 ∧ a' = { tmps := #[.func (.yield l) #[] #[], .pointer (some ⟨B, 0, none⟩), .pointer (some ⟨W.heap.size, 0, none⟩), .pointer (some ⟨b, 0, none⟩), undef, .pointer (some ⟨Bx, 0, none⟩), .pointer q, .pointer (some ⟨b, 0, none⟩), .bool true, u9, u10, u11, u12, .pointer (some ⟨b, 0, none⟩), .pointer (some ⟨b, 0, none⟩), .pointer (some ⟨b, 0, none⟩), .slice y.a y.len y.cap, .func (.func 104) #[] #[.pointer (some ⟨V.heap.size, 0, none⟩)], .int .i64 (x.1 : Int), .agg #[.int .i64 (ptAt y.pts x.1).1, .int .i64 (ptAt y.pts x.1).2, .int .i64 (ptAt y.pts (nxt y.pts x.1)).1, .int .i64 (ptAt y.pts (nxt y.pts x.1)).2], undef, undef, undef, undef], defers := [] })
        (fun x a' _ X Y row hs hg hr => by obtain ⟨Bx, e2, e3⟩ := hs; exact ⟨Bx, lies_own (β := Unit) Bx _ _ () X Y row e2 hg (fun r e => (hr r e).2), e3⟩)
        ?assign ?body ?done ?stop
      case assign =>
        rintro l' pre x V3 K ⟨⟨hj, L1, L2, hd⟩, hk3⟩ hK
        unfold encE
        have zV3 := hk3.1.size
        have hB3 : Below V3.heap.size V3 (V3.alloc (.cells #[.int .i64 (ptAt y.pts x.1).1, .int .i64 (ptAt y.pts x.1).2, .int .i64 (ptAt y.pts (nxt y.pts x.1)).1, .int .i64 (ptAt y.pts (nxt y.pts x.1)).2] 75)) := (by repeat (first | exact bw_refl _ | assumption | apply bw_drewN | apply bw_drew | apply bw_alloc | refine bw_set ?_ (by simp) _))
        gi_wp2
        exact hK _ _ ((KeepsOthers.alloc _ _).from _) (KB.of_below hB3 (by omega) L2.lt) ⟨⟨hJ.alloc _ hj, L1.below hB3, L2.below hB3, fun D hD => ⟨(hd D hD).1, (hB3.block D (Array.getElem?_eq_some_iff.1 (hd D hD).2).1).trans (hd D hD).2⟩⟩, hk3.trans (KT.of_below hB3 (by omega))⟩ ⟨V3.heap.size, Lies.new V3 _ _, rfl⟩
      case body =>
        rintro l' pre x a' V3 hl2 ⟨r, hr'⟩ ⟨⟨hj, L1, L2, hd⟩, hk3⟩ ⟨Bx, bX, rfl⟩ hlt
        obtain ⟨k, hkk⟩ := x
        dsimp only at *
        have cY := L1.c1
        obtain ⟨cx0, cx1, cx2, cx3⟩ := bX.c4
        have hlen : (edgR dn ++ pre.map fun k => (ptAt y.pts k.1, ptAt y.pts (nxt y.pts k.1))).length < (edgR rs).length := by
          rw [hrs]; simp only [edgR, List.flatMap_append, List.flatMap_cons, List.length_append, List.length_map, segsL_len]; omega
        obtain ⟨fn, tmps, assign, body, hy, hRd⟩ := hY _ (ptAt y.pts k, ptAt y.pts (nxt y.pts k)) V3 hj hlen
        dsimp only [segE] at hy
        have hR2 := fun m' => roundIn_any (m' := m') hRd l'
        clear hRd
        gi_wp2_with (refine ⟨fun _ => by omega, ?_⟩; refine (hR2 _).mono ?_; rintro e V4 ⟨rfl, hj4, hk4, hkf4⟩)
        have L2' := hk4.lies (.inl rfl) L2
        refine ⟨keeps_far hkf4 (by omega), ⟨hk4.1, L2'.trans L2.symm⟩, ⟨?_, hk4.lies (.inr rfl) L1, L2', fun D hD => ⟨(hd D hD).1, hkf4.same D _ (hd D hD).1 (hd D hD).2 rfl⟩⟩, hk3.trans hk4⟩
        rw [List.map_append, ← List.append_assoc]; exact hj4
      case done =>
        rintro D zs V3 hD rfl ⟨⟨hj, L1, L2, hd⟩, hk3⟩ hKD
        have hj' : J (edgR (dn ++ [y])) V3 := by
          rw [segsL_fin] at hj; simpa [edgR] using hj
        clear hj
        obtain ⟨c0', c1', _, _⟩ := lies2 (show Lies b #[.slice y.a y.len y.cap, .pointer q'] t V3 from (hk3.1.block b hb).trans hL)
        gi_wp2
        have hRn := hr.keep hk3.1
        refine ⟨⟨dn ++ [y], ys, q', D :: ds, _, _, _, _, _, _, _, _, _, _, _, by simp [hrs], hRn, hj', hkt.trans hk3, L1, ?_, ?_, rfl⟩, ?_⟩
        · intro E hE
          rcases List.mem_cons.1 hE with rfl | hE
          · exact ⟨by omega, hKD⟩
          · exact hd E hE
        · rw [List.nodup_cons]
          exact ⟨fun h => by have := hdsV D h; omega, hnd⟩
        · show ringsLeft V3 (.pointer q') < ringsLeft V (.pointer (some ⟨b, 0, none⟩))
          rw [ringsLeft_eq hRn.ringL, ringsLeft_eq (xs := y :: ys) ⟨b, q', t, rfl, hL, hyl, hP, hr.ringL⟩]; simp
      case stop =>
        rintro D c pre V3 hD hpre h hK
        exact h.elim
set_option maxHeartbeats 1000000 in
theorem ringEdges_in (n : Nat) (q : Option Addr) (w : World) :
    CallsIn Fence.wide n Tryz.prog 70 #[.pointer q] w fun e w' => e = .returned (.func (.func 86) #[] #[.pointer (some ⟨w.heap.size, 0, none⟩)]) ∧ w' = w.alloc (.cells #[.pointer q] 95) := by
  refine callsIn_of_wp Tryz.func70 rfl trivial ?_ rfl
  simp only [Tryz.ntmps70, List.size_toArray, List.length_cons, List.length_nil, Nat.reduceAdd, Nat.reduceSub, Array.replicate_succ, Array.replicate_zero, List.push_toArray, List.append_toArray, List.nil_append, List.cons_append]
  gi_wp2
  go_ret
  exact ⟨rfl, rfl⟩
end Go.Proofs.YtkncejcpeejkkaaGreatDoor
namespace Go.Proofs.YtkncejcpeejkkaaGreatDoor
open Go.RowKit Go.Shelf Go.Sort
attribute [local go_sem] Oper.semAt_some

set_option maxRecDepth 100000 in
set_option maxHeartbeats 4000000 in
theorem ringE_seqS (n : Nat) (hn : 6 ≤ n) (B n₀ : Nat) (q : Option Addr) (rs : List RingT) (w : World) (hB : w.cell? ⟨B, 0, none⟩ = some (.pointer q)) (hn₀ : n₀ ≤ w.heap.size) (hR : RingN n₀ w q rs) :
    SeqOS Fence.wide n Tryz.prog 86 #[.pointer (some ⟨B, 0, none⟩)] segE (KT n₀) (edgR rs) w := by
  intro l J Jx W hW hJ hJx hY h0
  have zBw : B < w.heap.size := World.block_lt_of_cell? _ _ hB
  have hBW := (hW.cell (p := ⟨B, 0, none⟩) zBw).trans hB
  have hRW := hR.keep (hW.mono hn₀)
  have zW := hW.size
  have zB : B < W.heap.size := by omega
  have h1 : 1 ≤ n := by omega
  refine callsIn_of_wp_marks Tryz.func86 rfl trivial ?_ rfl
  simp only [Tryz.ntmps86, List.size_toArray, List.length_cons, List.length_nil, Nat.reduceAdd, Nat.reduceSub, Array.replicate_succ, Array.replicate_zero, List.push_toArray, List.append_toArray, List.nil_append, List.cons_append]
  gi_wp2
  refine wpIn_loop (fun a V => ∃ (dn rest : List RingT) (p : Option Addr) (ds : List Nat) (u7 u8 u9 u10 u11 u12 u13 u14 u15 u16 u17 : Value), rs = dn ++ rest ∧ RingN n₀ V p rest ∧ J (edgR dn) V ∧ KT n₀ W V ∧ Lies W.heap.size #[.func (.yield l) #[] #[]] 93 V ∧ (∀ D ∈ ds, W.heap.size ≤ D ∧ V.heap[D]? = some (.deferred (some []))) ∧ ds.Nodup ∧
      a = { tmps := #[.func (.yield l) #[] #[], .pointer (some ⟨B, 0, none⟩), .pointer (some ⟨W.heap.size, 0, none⟩), .pointer p, undef, undef, .pointer q, u7, u8, u9, u10, u11, u12, u13, u14, u15, u16, u17, undef, undef, undef, undef, undef, undef], defers := ds.map fun D => { target := .collected D, args := #[] } })
    (fun a V => ringsLeft V (a.tmps.getD 3 undef)) ?start ?round
  case start =>
    refine ⟨[], rs, q, [], undef, undef, undef, undef, undef, undef, undef, undef, undef, undef, undef, rfl, hRW.keep ((Below.refl _ W).alloc (by omega) _), ?_, KT.of_below ((Below.refl _ W).alloc (Nat.le_refl _) _) (by omega), Lies.new W _ _, fun D hD => by simp at hD, by simp, rfl⟩
    exact hJ.alloc _ h0
  case round =>
    rintro a V ⟨dn, rest, p, ds, u7, u8, u9, u10, u11, u12, u13, u14, u15, u16, u17, hrs, hRV, hJV, hkt, LY, hds, hnd, rfl⟩
    cases rest with
    | nil =>
      obtain rfl : p = none := hRV
      gi_wp2
      rw [List.append_nil] at hrs
      subst hrs
      exact leaves_marks (fun V => J (edgR rs) V) W.heap.size (fun V D o hBD hD hj => hJ.putObj _ hj hBD hD rfl) (fun V hg => ⟨_, results_none rfl _ _ _, ⟨_, rfl⟩, .inl hg⟩) ds V hnd hds hJV
    | cons y ys =>
      obtain ⟨b, q', t, rfl, hb, hL, hyl, hP, hr⟩ := hRV
      obtain ⟨c0, c1, _, _⟩ := lies2 hL
      have zV := hkt.1.size
      have hdsV : ∀ D ∈ ds, D < V.heap.size := fun D hD => (Array.getElem?_eq_some_iff.1 (hds D hD).2).1
      gi_wp2_with (refine ⟨trivial, ?_⟩; gi_at_call 87; refine (edges_in (n - 1) _ _ _ _).mono ?_; rintro e w' ⟨rfl, rfl⟩)
      have BL : Lies V.heap.size #[.slice y.a y.len y.cap] 29 (V.alloc (.cells #[.slice y.a y.len y.cap] 29)) := Lies.new V _ _
      have hBV : Below V.heap.size V (V.alloc (.cells #[.slice y.a y.len y.cap] 29)) := (by repeat (first | exact bw_refl _ | assumption | apply bw_drewN | apply bw_drew | apply bw_alloc | refine bw_set ?_ (by simp) _))
      have hJ2 : J (edgR dn) (V.alloc (.cells #[.slice y.a y.len y.cap] 29)) := hJ.alloc _ hJV
      have LY2 := LY.below hBV
      have hds2 : ∀ D ∈ ds, W.heap.size ≤ D ∧ (V.alloc (.cells #[.slice y.a y.len y.cap] 29)).heap[D]? = some (.deferred (some [])) := fun D hD => ⟨(hds D hD).1, (hBV.block D (hdsV D hD)).trans (hds D hD).2⟩
      have hP2 : Pts n₀ (V.alloc (.cells #[.slice y.a y.len y.cap] 29)) y.a y.len y.pts := hP.below (hBV.mono (by omega))
      have hK2 : KT n₀ V (V.alloc (.cells #[.slice y.a y.len y.cap] 29)) := KT.of_below hBV (by omega)
      have hsz : (V.alloc (.cells #[.slice y.a y.len y.cap] 29)).heap.size = V.heap.size + 1 := by simp
      obtain ⟨V2, hV2⟩ : ∃ V2, V.alloc (.cells #[.slice y.a y.len y.cap] 29) = V2 := ⟨_, rfl⟩
      rw [hV2] at BL hBV hJ2 LY2 hds2 hP2 hK2 hsz ⊢
      clear hV2
      have hst := edges_stops (n - 1) (by omega) V.heap.size n₀ y.a y.len y.cap y.pts V2 (by omega) (by omega) hyl BL.c1 hP2
      refine wpIn_rangeFunc_ownH rfl h1 (gf := 104) (lb := #[.pointer (some ⟨V.heap.size, 0, none⟩)]) rfl trivial (enters_of Tryz.func104 (by kernel_rfl) rfl)
        hst KB_t (KB_b (by omega) (by omega)) (Below.refl _ _) (fun _ => rfl)
        (fun pre V3 => (J (edgR dn ++ pre.map fun k => (ptAt y.pts k.1, ptAt y.pts (nxt y.pts k.1))) V3 ∧ Lies W.heap.size #[.func (.yield l) #[] #[]] 93 V3 ∧ Lies V.heap.size #[.slice y.a y.len y.cap] 29 V3 ∧ ∀ D ∈ ds, W.heap.size ≤ D ∧ V3.heap[D]? = some (.deferred (some []))) ∧ KT n₀ V V3)
        (fun c pre V3 => c = .ret ∧ Jx (edgR dn ++ pre.map fun k => (ptAt y.pts k.1, ptAt y.pts (nxt y.pts k.1))) V3 ∧ ∀ D ∈ ds, W.heap.size ≤ D ∧ V3.heap[D]? = some (.deferred (some [])))
        (fun s X Y row hs hg hr => ⟨⟨hJ _ X Y row hs.1.1 hg (fun r e => ⟨by have := (hr r e).1; omega, (hr r e).2⟩), lies_own (β := Unit) _ _ _ () X Y row hs.1.2.1 hg (fun r e => (hr r e).2), lies_own (β := Unit) _ _ _ () X Y row hs.1.2.2.1 hg (fun r e => (hr r e).2), fun D hD => ⟨(hs.1.2.2.2 D hD).1, (hg.block D (Array.getElem?_eq_some_iff.1 (hs.1.2.2.2 D hD).2).1 (fun e => by have := (hr D e.symm).1; have := hdsV D hD; omega)).trans (hs.1.2.2.2 D hD).2⟩⟩, ⟨ownFrom_below (β := Unit) (n₀ := n₀) (B := V2.heap.size) (w₀ := V) (by omega) (by omega) () X Y row hs.2.1 hg hr, fun k cs t ht h => (hg.block k (Array.getElem?_eq_some_iff.1 (hs.2.2 k cs t ht h)).1 (fun e => by obtain ⟨_, o, ho, hc⟩ := hr k e.symm; rw [hs.2.2 k cs t ht h] at ho; cases ho; cases hc)).trans (hs.2.2 k cs t ht h)⟩⟩)
        (fun c s X Y row hs hg hr => ⟨hs.1, hJx _ X Y row hs.2.1 hg (fun r e => ⟨by have := (hr r e).1; omega, (hr r e).2⟩), fun D hD => ⟨(hs.2.2 D hD).1, (hg.block D (Array.getElem?_eq_some_iff.1 (hs.2.2 D hD).2).1 (fun e => by have := (hr D e.symm).1; have := hdsV D hD; omega)).trans (hs.2.2 D hD).2⟩⟩)
        ⟨⟨by simpa using hJ2, LY2, BL, hds2⟩, hK2⟩
        (fun x a' V3 => ∃ Bx, Lies Bx #[.int .i64 (ptAt y.pts x.1).1, .int .i64 (ptAt y.pts x.1).2, .int .i64 (ptAt y.pts (nxt y.pts x.1)).1, .int .i64 (ptAt y.pts (nxt y.pts x.1)).2] 75 V3 ∧ a' = { tmps := #[.func (.yield l) #[] #[], .pointer (some ⟨B, 0, none⟩), .pointer (some ⟨W.heap.size, 0, none⟩), .pointer (some ⟨b, 0, none⟩), undef, .pointer (some ⟨Bx, 0, none⟩), .pointer q, .pointer (some ⟨b, 0, none⟩), .bool true, u9, u10, u11, u12, .pointer (some ⟨b, 0, none⟩), .pointer (some ⟨b, 0, none⟩), .pointer (some ⟨b, 0, none⟩), .slice y.a y.len y.cap, .func (.func 104) #[] #[.pointer (some ⟨V.heap.size, 0, none⟩)], .int .i64 (x.1 : Int), .agg #[.int .i64 (ptAt y.pts x.1).1, .int .i64 (ptAt y.pts x.1).2, .int .i64 (ptAt y.pts (nxt y.pts x.1)).1, .int .i64 (ptAt y.pts (nxt y.pts x.1)).2], undef, undef, undef, undef], defers := [] })
        (fun x a' _ X Y row hs hg hr => by obtain ⟨Bx, e2, e3⟩ := hs; exact ⟨Bx, lies_own (β := Unit) Bx _ _ () X Y row e2 hg (fun r e => (hr r e).2), e3⟩)
        ?assign ?body ?done ?stop
      case assign =>
        rintro l' pre x V3 K ⟨⟨hj, L1, L2, hd⟩, hk3⟩ hK
        unfold encE
        have zV3 := hk3.1.size
        have hB3 : Below V3.heap.size V3 (V3.alloc (.cells #[.int .i64 (ptAt y.pts x.1).1, .int .i64 (ptAt y.pts x.1).2, .int .i64 (ptAt y.pts (nxt y.pts x.1)).1, .int .i64 (ptAt y.pts (nxt y.pts x.1)).2] 75)) := (by repeat (first | exact bw_refl _ | assumption | apply bw_drewN | apply bw_drew | apply bw_alloc | refine bw_set ?_ (by simp) _))
        gi_wp2
        exact hK _ _ ((KeepsOthers.alloc _ _).from _) (KB.of_below hB3 (by omega) L2.lt) ⟨⟨hJ.alloc _ hj, L1.below hB3, L2.below hB3, fun D hD => ⟨(hd D hD).1, (hB3.block D (Array.getElem?_eq_some_iff.1 (hd D hD).2).1).trans (hd D hD).2⟩⟩, hk3.trans (KT.of_below hB3 (by omega))⟩ ⟨V3.heap.size, Lies.new V3 _ _, rfl⟩
      case body =>
        rintro l' pre x a' V3 hl2 ⟨r, hr'⟩ ⟨⟨hj, L1, L2, hd⟩, hk3⟩ ⟨Bx, bX, rfl⟩ hlt
        obtain ⟨k, hkk⟩ := x
        dsimp only at *
        have cY := L1.c1
        obtain ⟨cx0, cx1, cx2, cx3⟩ := bX.c4
        have hlen : (edgR dn ++ pre.map fun k => (ptAt y.pts k.1, ptAt y.pts (nxt y.pts k.1))).length < (edgR rs).length := by
          rw [hrs]; simp only [edgR, List.flatMap_append, List.flatMap_cons, List.length_append, List.length_map, segsL_len]; omega
        obtain ⟨fn, tmps, assign, body, hy, hRd⟩ := hY _ (ptAt y.pts k, ptAt y.pts (nxt y.pts k)) V3 hj hlen
        dsimp only [segE] at hy
        have hR2 := fun m' => roundIn_any (m' := m') hRd l'
        clear hRd
        gi_wp2_with fail
        refine ⟨fun _ => by omega, ?_⟩
        refine (hR2 _).mono ?_
        rintro e V4 ⟨yes, rfl, hkf4, hyes, hno⟩
        cases yes
        · have hx4 := hno rfl
          clear hyes hno
          gi_wp2
          refine ⟨keeps_far hkf4 (by omega), rfl, ?_, fun D hD => ⟨(hd D hD).1, hkf4.same D _ (hd D hD).1 (hd D hD).2 rfl⟩⟩
          rw [List.map_append, ← List.append_assoc]; exact hx4
        · obtain ⟨hj4, hk4⟩ := hyes rfl
          clear hyes hno
          have L2' := hk4.lies (.inl rfl) L2
          gi_wp2
          refine ⟨keeps_far hkf4 (by omega), ⟨hk4.1, L2'.trans L2.symm⟩, ⟨?_, hk4.lies (.inr rfl) L1, L2', fun D hD => ⟨(hd D hD).1, hkf4.same D _ (hd D hD).1 (hd D hD).2 rfl⟩⟩, hk3.trans hk4⟩
          rw [List.map_append, ← List.append_assoc]; exact hj4
      case done =>
        rintro D zs V3 hD rfl ⟨⟨hj, L1, L2, hd⟩, hk3⟩ hKD
        have hj' : J (edgR (dn ++ [y])) V3 := by
          rw [segsL_fin] at hj; simpa [edgR] using hj
        clear hj
        obtain ⟨c0', c1', _, _⟩ := lies2 (show Lies b #[.slice y.a y.len y.cap, .pointer q'] t V3 from (hk3.1.block b hb).trans hL)
        gi_wp2
        have hRn := hr.keep hk3.1
        refine ⟨⟨dn ++ [y], ys, q', D :: ds, _, _, _, _, _, _, _, _, _, _, _, by simp [hrs], hRn, hj', hkt.trans hk3, L1, ?_, ?_, rfl⟩, ?_⟩
        · intro E hE
          rcases List.mem_cons.1 hE with rfl | hE
          · exact ⟨by omega, hKD⟩
          · exact hd E hE
        · rw [List.nodup_cons]
          exact ⟨fun h => by have := hdsV D h; omega, hnd⟩
        · show ringsLeft V3 (.pointer q') < ringsLeft V (.pointer (some ⟨b, 0, none⟩))
          rw [ringsLeft_eq hRn.ringL, ringsLeft_eq (xs := y :: ys) ⟨b, q', t, rfl, hL, hyl, hP, hr.ringL⟩]; simp
      case stop =>
        rintro D c pre V3 hD ⟨k, hk, rfl⟩ ⟨rfl, hx, hd⟩ hK
        have hq0 : (edgR dn ++ (upto y.pts.length k).map fun k => (ptAt y.pts k.1, ptAt y.pts (nxt y.pts k.1))) <+: edgR rs := by
          rw [hrs]
          have e : edgR (dn ++ y :: ys) = edgR dn ++ (segsL y.pts ++ edgR ys) := by simp [edgR]
          rw [e, List.prefix_append_right_inj, ← segsL_fin]
          exact ((List.take_prefix k _).map _).trans (List.prefix_append _ _)
        gi_wp2
        refine leaves_marks (fun V => ∃ pre, pre <+: edgR rs ∧ Jx pre V) W.heap.size (fun V D o hBD hD hj => hj.imp fun q hq => ⟨hq.1, hJx.putObj _ hq.2 hBD hD rfl⟩) (fun V hg => ⟨_, results_none rfl _ _ _, ⟨_, rfl⟩, .inr hg⟩) (D :: ds) V3 ?_ ?_ ⟨_, hq0, hx⟩
        · rw [List.nodup_cons]
          exact ⟨fun h => by have := hdsV D h; omega, hnd⟩
        · intro E hE
          rcases List.mem_cons.1 hE with rfl | hE
          · exact ⟨by omega, hK⟩
          · exact hd E hE
end Go.Proofs.YtkncejcpeejkkaaGreatDoor
namespace Go.Proofs.YtkncejcpeejkkaaGreatDoor
open Go.RowKit


set_option maxHeartbeats 400000 in
theorem gcd_impl_nat (k l : Nat) (w : World) (hk : k ≤ 1000000) (hl : l ≤ 1000000) :
    Calls Tryz.prog 94 #[.int .i64 k, .int .i64 l] w fun e w' => e = .returned (.int .i64 (Nat.gcd k l : Nat)) ∧ ∃ n, w' = w.drewN n := by
  go_enter Tryz.func94, Tryz.ntmps94
  go_wp2
  go_loopw [0, 1] (fun a b wr => ∃ x y n : Nat, x ≤ 1000000 ∧ y ≤ 1000000 ∧ a = .int .i64 x ∧ b = .int .i64 y ∧ Hid (Nat.gcd x y = Nat.gcd k l) ∧ wr = w.drewN n) (fun _ b _ => (intOf b).toNat)
  case atStart => exact ⟨k, l, 0, hk, hl, rfl, rfl, rfl, rfl⟩
  case round =>
    obtain ⟨x, y, n, hx, hy, rfl, rfl, hg, rfl⟩ := hrel
    by_cases h0 : y = 0
    · have H0 : Hid (y = 0) := h0
      have hz : ((y : Int) != 0) = false := by simp [h0]
      clear h0
      go_wp2
      go_ret
      have h0 := H0.out
      have hG := hg.out
      subst h0
      rw [Nat.gcd_zero_right] at hG
      exact ⟨ret_int (by rw [hG]), n, rfl⟩
    · have h1 : (1 : Int) ≤ (y : Int) := by omega
      have hz : ((y : Int) != 0) = true := by simp; omega
      have HG : Hid (Nat.gcd y (x % y) = Nat.gcd k l) := by rw [gcd_step]; exact hg
      have hm : x % y < y := Nat.mod_lt _ (by omega)
      clear h0 hg
      go_wp2
      go_quiet (fail)
      go_wp2
      exact ⟨⟨y, x % y, n + nq, hy, by omega, rfl, by go_num, HG, World.drewN_drewN _ _ _⟩, by simp [intOf]; omega⟩
theorem gcd_impl (a b : Int) (w : World) (ha : 0 ≤ a) (hb : 0 ≤ b) (hk : a ≤ 1000000) (hl : b ≤ 1000000) :
    Calls Tryz.prog 94 #[.int .i64 a, .int .i64 b] w fun e w' => e = .returned (.int .i64 (G a b)) ∧ ∃ n, w' = w.drewN n := by
  obtain ⟨k, rfl⟩ := Int.eq_ofNat_of_zero_le ha
  obtain ⟨l, rfl⟩ := Int.eq_ofNat_of_zero_le hb
  rw [G_nat]
  exact gcd_impl_nat k l w (by omega) (by omega)

end Go.Proofs.YtkncejcpeejkkaaGreatDoor
namespace Go.Proofs.YtkncejcpeejkkaaGreatDoor
open Go.RowKit Go.Extern.Stop Go.Stop Go.Extern

theorem isTypeOf (v : Value) (w : World) : (Extern.ReflectliteType.typeOf #[.iface 161 v]).run Tryz.prog w = .ok (.iface 151 (.agg #[.pointer (some ⟨1, 161, none⟩)])) w := by kernel_rfl
/-- What the model lays for (rtype).Comparable, under a name. -/
def cmpF : Array Value → Sem Value := Extern.ReflectliteType.method fun t => do Extern.Rtype.noPackHeld "Comparable" t; pure (.bool (← typeInfo t).comparable)
theorem isComparable (w : World) : (cmpF #[.agg #[.pointer (some ⟨1, 161, none⟩)]]).run Tryz.prog w = .ok (.bool true) w := by kernel_rfl
theorem isMethodComparable (v : Value) (w : World) : (Go.method 299 151 v "Comparable").run Tryz.prog w = .ok (134, v) w := by kernel_rfl
theorem isComp : (Tryz.prog.info? 161).map (·.comparable) = some true := by kernel_rfl
theorem isSize : (Tryz.prog.info? 187).map (·.size) = some 1 := by kernel_rfl

set_option maxRecDepth 100000 in
/-- errors.Is(x, x), x a pointer to an errors.errorString. -/
theorem is_same (a : Addr) (w : World) :
    Calls Tryz.prog 80 #[.iface 161 (.pointer (some a)), .iface 161 (.pointer (some a))] w fun e w' => e = .returned (.bool true) ∧ w' = w := by
  obtain ⟨i, hi, hcmp⟩ := Option.map_eq_some_iff.1 isComp
  obtain ⟨j, hj, hjs⟩ := Option.map_eq_some_iff.1 isSize
  have h8 := @run_callFunc_extern Tryz.prog 95 _ Extern.ReflectliteType.typeOf Tryz.func95 (by kernel_rfl) (by kernel_rfl) (by kernel_rfl) (by kernel_rfl)
  have h32 := @run_callFunc_extern Tryz.prog 134 _ cmpF Tryz.func134 (by kernel_rfl) (by kernel_rfl) (by kernel_rfl) (by kernel_rfl)
  have tT := isTypeOf
  have cT := isComparable
  have mR := isMethodComparable
  have heq := run_eql_iface_ptr_same (P := Tryz.prog) w a Tryz.underlying123 Tryz.underlying161 hi hcmp hj
  go_enter Tryz.func80, Tryz.ntmps80
  go_wp2
  refine wp_loop_rounds 1 ?_
  rw [rounds_succ]
  go_wp2
  go_ret
  exact ⟨rfl, rfl⟩

set_option maxRecDepth 100000 in
/-- errors.Is(nil, x). -/
theorem is_nil (b : Addr) (w : World) :
    Calls Tryz.prog 80 #[.nilIface, .iface 161 (.pointer (some b))] w fun e w' => e = .returned (.bool false) ∧ w' = w := by
  have hn := run_eql_iface_nil_left (P := Tryz.prog) w 161 (.pointer (some b)) Tryz.underlying123
  go_enter Tryz.func80, Tryz.ntmps80
  go_wp2
  go_ret
  exact ⟨rfl, rfl⟩
end Go.Proofs.YtkncejcpeejkkaaGreatDoor
namespace Go.Proofs.YtkncejcpeejkkaaGreatDoor
open Go.RowKit

/-- The sentinel's variable holds the pointer a. -/
def Sent (a : Addr) (w : World) : Prop := w.cell? ⟨0, 0, none⟩ = some (.iface 161 (.pointer (some a)))
theorem Sent.lt {a : Addr} {w : World} (h : Sent a w) : 0 < w.heap.size := by
  rcases Nat.lt_or_ge 0 w.heap.size with h' | h'
  · exact h'
  · unfold Sent at h; simp [World.cell?, Array.getElem?_eq_none h'] at h
theorem Sent.below {a : Addr} {w w' : World} (h : Sent a w) (hb : Below w.heap.size w w') : Sent a w' := by
  have hl := h.lt
  unfold Sent at *; rw [hb.cell (p := ⟨0, 0, none⟩) hl]; exact h



theorem divide_bad (n d : Int) (a : Addr) (w : World) (hs : Sent a w) (h : inB n d = false) :
    Calls Tryz.prog 79 #[.int .i64 n, .int .i64 d] w fun e w' => e = .returned (.tuple #[.nilIface, .iface 161 (.pointer (some a))]) ∧ ∃ m, w' = w.drewN m := by
  rw [inB_not] at h
  unfold Sent at hs
  have hc : n < 0 ∨ (0 ≤ n ∧ 99999 < n) ∨ (0 ≤ n ∧ n ≤ 99999 ∧ d < 1) ∨ (0 ≤ n ∧ n ≤ 99999 ∧ 1 ≤ d ∧ 99999 < d) := by omega
  clear h
  rcases hc with h1 | ⟨h1, h2⟩ | ⟨h1, h2, h3⟩ | ⟨h1, h2, h3, h4⟩
  all_goals
    go_enter Tryz.func79, Tryz.ntmps79
    go_wp2
    go_quiet (fail)
    go_wp2
    go_ret2
    exact ⟨rfl, _, rfl⟩

theorem divide_ok (n d : Int) (w : World) (h : inB n d = true) :
    Calls Tryz.prog 79 #[.int .i64 n, .int .i64 d] w fun e w' => e = .returned (.tuple #[.iface 139 (.agg #[.int .i64 (n / G n d), .int .i64 (d / G n d)]), .nilIface]) ∧ ∃ m, w' = w.drewN m := by
  rw [inB_iff] at h
  obtain ⟨h1, h2, h3, h4⟩ := h
  have hg := G_pos n d h3
  have hg2 := G_le n d h3
  have hz : (G n d == 0) = false := by simp; omega
  go_enter Tryz.func79, Tryz.ntmps79
  go_wp2_with (go_at_call 94; refine (gcd_impl _ _ _ h1 (by omega) (by omega) (by omega)).mono ?_; rintro e w' ⟨rfl, m, rfl⟩)
  go_quiet (fail)
  go_wp2
  go_ret2
  exact ⟨rfl, _, World.drewN_drewN _ _ _⟩
end Go.Proofs.YtkncejcpeejkkaaGreatDoor
namespace Go.Proofs.YtkncejcpeejkkaaGreatDoor
open Go.RowKit

theorem meth_below (v : Value) (w : World) : (Go.method 299 139 v "loop.example/mortiser/impl.below").run Tryz.prog w = .ok (130, v) w := by kernel_rfl
theorem meth_above (v : Value) (w : World) : (Go.method 299 139 v "loop.example/mortiser/impl.above").run Tryz.prog w = .ok (129, v) w := by kernel_rfl

theorem below_any (n d : Int) (w : World) :
    Calls Tryz.prog 130 #[.agg #[.int .i64 n, .int .i64 d]] w fun e w' => e = .returned (.int .i64 d) ∧ w' = w.alloc (.cells #[.int .i64 n, .int .i64 d] 139) := by
  go_enter Tryz.func130, Tryz.ntmps130
  go_wp2
  go_ret
  exact ⟨rfl, rfl⟩
theorem above_any (n d : Int) (w : World) :
    Calls Tryz.prog 129 #[.agg #[.int .i64 n, .int .i64 d]] w fun e w' => e = .returned (.int .i64 n) ∧ w' = w.alloc (.cells #[.int .i64 n, .int .i64 d] 139) := by
  go_enter Tryz.func129, Tryz.ntmps129
  go_wp2
  go_ret
  exact ⟨rfl, rfl⟩

theorem ratio_out (n d : Int) (w : World) (a : Addr) (hs : Sent a w) (h : inB n d = false) :
    Calls Tryz.prog 82 #[.agg #[.int .i64 n, .int .i64 d]] w fun e w' => e = .returned (.tuple #[.nilIface, .iface 161 (.pointer (some a))]) ∧ Below w.heap.size w w' := by
  go_enter Tryz.func82, Tryz.ntmps82
  go_wp2_with (go_at_call 79; refine (divide_bad _ _ a _ ?_ h).mono ?_; exact hs.below ((Below.refl _ _).alloc (Nat.le_refl _) _); rintro e w' ⟨rfl, m, rfl⟩)
  go_ret2
  exact ⟨rfl, bw_drewN (bw_alloc (bw_refl _) _) _⟩

theorem ratio_yes (n d : Int) (w : World) (h : inB n d = true) (hg : G n d = 1) :
    Calls Tryz.prog 82 #[.agg #[.int .i64 n, .int .i64 d]] w fun e w' => e = .returned (.tuple #[.iface 139 (.agg #[.int .i64 n, .int .i64 d]), .nilIface]) ∧ Below w.heap.size w w' := by
  have mB := meth_below
  have HG : Hid (G n d = 1) := hg
  have e1 : Hid (n / G n d = n) := by rw [hg]; exact Int.ediv_one n
  have e2 : Hid (d / G n d = d) := by rw [hg]; exact Int.ediv_one d
  have hne : (d != d) = false := by simp
  clear hg
  go_enter Tryz.func82, Tryz.ntmps82
  go_wp2_with (go_at_call 79; refine (divide_ok _ _ _ h).mono ?_; rintro e w' ⟨rfl, m, rfl⟩; rw [e1.out, e2.out])
  go_region_with (go_at_call 130; refine (below_any _ _ _).mono ?_; rintro e w' ⟨rfl, rfl⟩)
  all_goals go_wp2
  all_goals go_ret2
  all_goals exact ⟨rfl, by repeat (first | exact bw_refl _ | apply bw_drewN | apply bw_drew | apply bw_alloc)⟩

theorem ratio_no (n d : Int) (a : Addr) (w : World) (hs : Sent a w) (h : inB n d = true) (hg : G n d ≠ 1) :
    Calls Tryz.prog 82 #[.agg #[.int .i64 n, .int .i64 d]] w fun e w' => e = .returned (.tuple #[.nilIface, .iface 161 (.pointer (some a))]) ∧ Below w.heap.size w w' := by
  have mB := meth_below
  have hlt := hs.lt
  have h' := (inB_iff n d).1 h
  have hgp := G_pos n d h'.2.2.1
  have hne : (d / G n d != d) = true := by
    have := mt (div_self_iff d (G n d) h'.2.2.1 hgp).1 hg
    simpa using this
  unfold Sent at hs
  clear hg h' hgp
  go_enter Tryz.func82, Tryz.ntmps82
  go_wp2_with (go_at_call 79; refine (divide_ok _ _ _ h).mono ?_; rintro e w' ⟨rfl, m, rfl⟩)
  go_region_with (go_at_call 130; refine (below_any _ _ _).mono ?_; rintro e w' ⟨rfl, rfl⟩)
  all_goals go_wp2
  all_goals go_quiet (fail)
  all_goals go_wp2
  all_goals go_ret2
  all_goals exact ⟨rfl, by repeat (first | exact bw_refl _ | apply bw_drewN | apply bw_drew | apply bw_alloc)⟩

/-- An ok fraction comes back as it is. -/
theorem ratio_ok (n d : Int) (w : World) (h : okB n d = true) :
    Calls Tryz.prog 82 #[.agg #[.int .i64 n, .int .i64 d]] w fun e w' => e = .returned (.tuple #[.iface 139 (.agg #[.int .i64 n, .int .i64 d]), .nilIface]) ∧ Below w.heap.size w w' := by
  rw [okB_iff] at h
  exact ratio_yes n d w ((inB_iff n d).2 ⟨h.1, h.2.1, h.2.2.1, h.2.2.2.1⟩) h.2.2.2.2
/-- Of any other one there is the error. -/
theorem ratio_bad (n d : Int) (a : Addr) (w : World) (hs : Sent a w) (h : okB n d = false) :
    Calls Tryz.prog 82 #[.agg #[.int .i64 n, .int .i64 d]] w fun e w' => e = .returned (.tuple #[.nilIface, .iface 161 (.pointer (some a))]) ∧ Below w.heap.size w w' := by
  cases hi : inB n d
  · exact ratio_out n d w a hs hi
  · refine ratio_no n d a w hs hi fun hg => ?_
    rw [inB_iff] at hi
    rw [okB_not] at h
    exact h ⟨hi.1, hi.2.1, hi.2.2.1, hi.2.2.2, hg⟩
end Go.Proofs.YtkncejcpeejkkaaGreatDoor
namespace Go.Proofs.YtkncejcpeejkkaaGreatDoor
open Go.RowKit


theorem fracOf_bad (n d : Int) (a : Addr) (w : World) (hs : Sent a w) (h : inB n d = false) :
    Calls Tryz.prog 64 #[.int .i64 n, .int .i64 d] w fun e w' => e = .returned (.tuple #[.agg #[.int .i64 0, .int .i64 0], .bool false]) ∧ Below w.heap.size w w' := by
  have b0 : Below w.heap.size w (w.alloc (.cells #[.int .i64 0, .int .i64 0] 61)) := bw_alloc (bw_refl _) _
  have hlt := hs.lt
  have hc := hs
  unfold Sent at hc
  go_enter Tryz.func64, Tryz.ntmps64
  go_wp2_with (first
    | (go_at_call 79; refine (divide_bad _ _ a _ ?_ h).mono ?_; exact hs.below b0; rintro e w' ⟨rfl, m, rfl⟩)
    | (go_at_call 80; refine (is_same _ _).mono ?_; rintro e w' ⟨rfl, rfl⟩))
  exact bodyPost_ret (v := .tuple #[.agg #[.int .i64 0, .int .i64 0], .bool false]) (by simp [results, Tryz.results64, go_sem]) rfl ⟨rfl, by repeat (first | exact bw_refl _ | apply bw_drewN | apply bw_drew | apply bw_alloc | refine bw_set ?_ (by simp) _)⟩

theorem fracOf_ok (n d : Int) (a : Addr) (w : World) (hs : Sent a w) (h : inB n d = true) :
    Calls Tryz.prog 64 #[.int .i64 n, .int .i64 d] w fun e w' => e = .returned (.tuple #[.agg #[.int .i64 (n / G n d), .int .i64 (d / G n d)], .bool true]) ∧ Below w.heap.size w w' := by
  have mB := meth_below
  have mA := meth_above
  have b0 : Below w.heap.size w (w.alloc (.cells #[.int .i64 0, .int .i64 0] 61)) := bw_alloc (bw_refl _) _
  have hlt := hs.lt
  have hc := hs
  unfold Sent at hc
  go_enter Tryz.func64, Tryz.ntmps64
  go_wp2_with (first
    | (go_at_call 79; refine (divide_ok _ _ _ h).mono ?_; rintro e w' ⟨rfl, m, rfl⟩)
    | (go_at_call 80; refine (is_nil _ _).mono ?_; rintro e w' ⟨rfl, rfl⟩)
    | (go_at_call 129; refine (above_any _ _ _).mono ?_; rintro e w' ⟨rfl, rfl⟩)
    | (go_at_call 130; refine (below_any _ _ _).mono ?_; rintro e w' ⟨rfl, rfl⟩))
  exact bodyPost_ret (v := .tuple #[.agg #[.int .i64 (n / G n d), .int .i64 (d / G n d)], .bool true]) (by simp [results, Tryz.results64, go_sem]) rfl ⟨rfl, by repeat (first | exact bw_refl _ | apply bw_drewN | apply bw_drew | apply bw_alloc | refine bw_set ?_ (by simp) _)⟩

theorem mul_bd (x y : Int) (h1 : 0 ≤ x) (h2 : x ≤ 99999) (h3 : 0 ≤ y) (h4 : y ≤ 99999) : 0 ≤ x * y ∧ x * y ≤ 9999800001 := by
  refine ⟨Int.mul_nonneg h1 h3, ?_⟩
  have := Int.mul_le_mul h2 h4 h3 (by omega)
  omega

theorem cross_any (n d m b : Int) (w : World) (h1 : 0 ≤ n) (h2 : n ≤ 99999) (h3 : 0 ≤ b) (h4 : b ≤ 99999) :
    Calls Tryz.prog 84 #[.iface 139 (.agg #[.int .i64 n, .int .i64 d]), .iface 139 (.agg #[.int .i64 m, .int .i64 b])] w fun e w' => e = .returned (.int .i64 (n * b)) ∧ Below w.heap.size w w' := by
  have mB := meth_below
  have mA := meth_above
  obtain ⟨k1, k2⟩ := mul_bd n b h1 h2 h3 h4
  go_enter Tryz.func84, Tryz.ntmps84
  go_wp2_with (first
    | (go_at_call 129; refine (above_any _ _ _).mono ?_; rintro e w' ⟨rfl, rfl⟩)
    | (go_at_call 130; refine (below_any _ _ _).mono ?_; rintro e w' ⟨rfl, rfl⟩))
  go_ret
  exact ⟨rfl, by repeat (first | exact bw_refl _ | apply bw_drewN | apply bw_drew | apply bw_alloc | refine bw_set ?_ (by simp) _)⟩

theorem compare_any (x y : Int) (w : World) :
    Calls Tryz.prog 83 #[.int .i64 x, .int .i64 y] w fun e w' => e = .returned (.int .i64 (cmpI x y)) ∧ Below w.heap.size w w' := by
  have hc : x < y ∨ (¬ x < y ∧ y < x) ∨ (¬ x < y ∧ ¬ y < x) := by omega
  rcases hc with h1 | ⟨h1, h2⟩ | ⟨h1, h2⟩
  · have e : Hid (cmpI x y = -1) := by unfold cmpI; rw [if_pos h1]; rfl
    go_enter Tryz.func83, Tryz.ntmps83
    go_wp2
    go_ret
    exact ⟨ret_int e.out.symm, bw_refl _⟩
  · have e : Hid (cmpI x y = 1) := by unfold cmpI; rw [if_neg h1, if_pos h2]; rfl
    go_enter Tryz.func83, Tryz.ntmps83
    go_wp2
    go_ret
    exact ⟨ret_int e.out.symm, bw_refl _⟩
  · have e : Hid (cmpI x y = 0) := by unfold cmpI; rw [if_neg h1, if_neg h2]; rfl
    go_enter Tryz.func83, Tryz.ntmps83
    go_wp2
    go_ret
    exact ⟨ret_int e.out.symm, bw_refl _⟩

/-- What FracCmp answers. -/
def cmpV (n d m b : Int) : Int := if okB n d && okB m b then cmpI (n * b) (m * d) else 2

theorem fracCmp_left (n d m b : Int) (a : Addr) (w : World) (hs : Sent a w) (h : okB n d = false) :
    Calls Tryz.prog 66 #[.agg #[.int .i64 n, .int .i64 d], .agg #[.int .i64 m, .int .i64 b]] w fun e w' => e = .returned (.int .i64 2) ∧ Below w.heap.size w w' := by
  have b0 : Below w.heap.size w ((w.alloc (.cells #[.int .i64 n, .int .i64 d] 61)).alloc (.cells #[.int .i64 m, .int .i64 b] 61)) := bw_alloc (bw_alloc (bw_refl _) _) _
  go_enter Tryz.func66, Tryz.ntmps66
  go_wp2_with (first
    | (go_at_call 82; refine (ratio_bad _ _ a _ ?_ h).mono ?_; exact hs.below b0; rintro e w' ⟨rfl, hb⟩; have hs1 := hs.below (bw_trans b0 hb); unfold Sent at hs1)
    | (go_at_call 80; refine (is_same _ _).mono ?_; rintro e w' ⟨rfl, rfl⟩))
  go_ret
  exact ⟨rfl, bw_trans b0 hb⟩
end Go.Proofs.YtkncejcpeejkkaaGreatDoor
namespace Go.Proofs.YtkncejcpeejkkaaGreatDoor
open Go.RowKit

theorem fracCmp_right (n d m b : Int) (a : Addr) (w : World) (hs : Sent a w) (h : okB n d = true) (h2 : okB m b = false) :
    Calls Tryz.prog 66 #[.agg #[.int .i64 n, .int .i64 d], .agg #[.int .i64 m, .int .i64 b]] w fun e w' => e = .returned (.int .i64 2) ∧ Below w.heap.size w w' := by
  have b0 : Below w.heap.size w ((w.alloc (.cells #[.int .i64 n, .int .i64 d] 61)).alloc (.cells #[.int .i64 m, .int .i64 b] 61)) := bw_alloc (bw_alloc (bw_refl _) _) _
  go_enter Tryz.func66, Tryz.ntmps66
  go_wp2_with fail
  refine (ratio_ok _ _ _ h).mono ?_
  rintro e w1 ⟨rfl, hb⟩
  have hs1 := hs.below (bw_trans b0 hb)
  obtain ⟨hc1, hf1⟩ := bcell hb
  have HB : Hid (Below w.heap.size w w1) := bw_trans b0 hb
  have hs2 := hs1
  unfold Sent at hs1
  go_wp2_with (go_at_call 80; refine (is_nil _ _).mono ?_; rintro e w' ⟨rfl, rfl⟩)
  refine (ratio_bad _ _ a _ hs2 h2).mono ?_
  rintro e w2 ⟨rfl, hb2⟩
  have hs3 := hs2.below hb2
  unfold Sent at hs3
  go_wp2_with (go_at_call 80; refine (is_same _ _).mono ?_; rintro e w' ⟨rfl, rfl⟩)
  go_ret
  exact ⟨rfl, bw_trans HB.out hb2⟩

theorem fracCmp_both (n d m b : Int) (a : Addr) (w : World) (hs : Sent a w) (h : okB n d = true) (h2 : okB m b = true) :
    Calls Tryz.prog 66 #[.agg #[.int .i64 n, .int .i64 d], .agg #[.int .i64 m, .int .i64 b]] w fun e w' => e = .returned (.int .i64 (cmpI (n * b) (m * d))) ∧ Below w.heap.size w w' := by
  have b0 : Below w.heap.size w ((w.alloc (.cells #[.int .i64 n, .int .i64 d] 61)).alloc (.cells #[.int .i64 m, .int .i64 b] 61)) := bw_alloc (bw_alloc (bw_refl _) _) _
  have k1 := (okB_iff n d).1 h
  have k2 := (okB_iff m b).1 h2
  go_enter Tryz.func66, Tryz.ntmps66
  go_wp2_with fail
  refine (ratio_ok _ _ _ h).mono ?_
  rintro e w1 ⟨rfl, hb⟩
  have hs1 := hs.below (bw_trans b0 hb)
  obtain ⟨hc1, hf1⟩ := bcell hb
  have HB : Hid (Below w.heap.size w w1) := bw_trans b0 hb
  have hs2 := hs1
  unfold Sent at hs1
  go_wp2_with (go_at_call 80; refine (is_nil _ _).mono ?_; rintro e w' ⟨rfl, rfl⟩)
  refine (ratio_ok _ _ _ h2).mono ?_
  rintro e w2 ⟨rfl, hb2⟩
  have hs3 := hs2.below hb2
  unfold Sent at hs3
  have HB2 : Hid (Below w.heap.size w w2) := bw_trans HB.out hb2
  clear hb hb2 hc1 hf1 hs1 HB
  go_wp2_with (go_at_call 80; refine (is_nil _ _).mono ?_; rintro e w' ⟨rfl, rfl⟩)
  refine (cross_any n d m b _ k1.1 k1.2.1 (by omega) k2.2.2.2.1).mono ?_
  rintro e w3 ⟨rfl, hb3⟩
  go_wp2_with fail
  refine (cross_any m b n d _ k2.1 k2.2.1 (by omega) k1.2.2.2.1).mono ?_
  rintro e w4 ⟨rfl, hb4⟩
  go_wp2_with fail
  refine (compare_any _ _ _).mono ?_
  rintro e w5 ⟨rfl, hb5⟩
  go_wp2_with fail
  go_ret
  exact ⟨rfl, bw_trans (bw_trans (bw_trans HB2.out hb3) hb4) hb5⟩

/-- FracCmp at every two fractions. -/
theorem fracCmp_any (n d m b : Int) (a : Addr) (w : World) (hs : Sent a w) :
    Calls Tryz.prog 66 #[.agg #[.int .i64 n, .int .i64 d], .agg #[.int .i64 m, .int .i64 b]] w fun e w' => e = .returned (.int .i64 (cmpV n d m b)) ∧ Below w.heap.size w w' := by
  unfold cmpV
  cases h : okB n d
  · exact fracCmp_left n d m b a w hs h
  · cases h2 : okB m b
    · exact fracCmp_right n d m b a w hs h h2
    · exact fracCmp_both n d m b a w hs h h2
/-- FracOf at every two numbers. -/
theorem fracOf_any (n d : Int) (a : Addr) (w : World) (hs : Sent a w) :
    Calls Tryz.prog 64 #[.int .i64 n, .int .i64 d] w fun e w' => e = .returned (.tuple #[.agg #[.int .i64 (ofN n d), .int .i64 (ofD n d)], .bool (inB n d)]) ∧ Below w.heap.size w w' := by
  unfold ofN ofD
  cases h : inB n d
  · exact fracOf_bad n d a w hs h
  · exact fracOf_ok n d a w hs h
end Go.Proofs.YtkncejcpeejkkaaGreatDoor
namespace Go.Proofs.YtkncejcpeejkkaaGreatDoor
open Go.RowKit Go.Sort

theorem cellB {W w : World} {a : Addr} {v : Value} (J : Below W.heap.size W w) (h : W.cell? a = some v) : w.cell? a = some v := by
  rw [J.cell (World.block_lt_of_cell? _ _ h)]; exact h
theorem cellS2 {W : World} {p m n : Nat} {x y v : Value} {a : Addr} (h : W.cell? a = some v) (hb : a.block ≠ p) : ((W.setCell ⟨p, m, none⟩ x).setCell ⟨p, n, none⟩ y).cell? a = some v := by
  rw [← h]
  refine World.cell?_of_block (w := W) ?_
  rw [Below.heap_setCell _ _ _ _ (by show a.block ≠ p; exact hb), Below.heap_setCell _ _ _ _ (by show a.block ≠ p; exact hb)]
theorem setF2 {w : World} {b : Nat} {x0 x1 u0 u1 : Value} {t : TypeId} (h : w.heap[b]? = some (.cells #[x0, x1] t (0, 0))) : ((w.setCell ⟨b, 0, none⟩ u0).setCell ⟨b, 1, none⟩ u1).heap[b]? = some (.cells #[u0, u1] t (0, 0)) := by
  simp [World.setCell, Array.getElem?_modify, h]
theorem cB4 {W w : World} {a0 a1 a2 a3 : Addr} {v0 v1 v2 v3 : Value} (J : Below W.heap.size W w) (h : W.cell? a0 = some v0 ∧ W.cell? a1 = some v1 ∧ W.cell? a2 = some v2 ∧ W.cell? a3 = some v3) : w.cell? a0 = some v0 ∧ w.cell? a1 = some v1 ∧ w.cell? a2 = some v2 ∧ w.cell? a3 = some v3 :=
  ⟨cellB J h.1, cellB J h.2.1, cellB J h.2.2.1, cellB J h.2.2.2⟩
theorem cA4 {W : World} {o : Obj} {a0 a1 a2 a3 : Addr} {v0 v1 v2 v3 : Value} (h : W.cell? a0 = some v0 ∧ W.cell? a1 = some v1 ∧ W.cell? a2 = some v2 ∧ W.cell? a3 = some v3) : (W.alloc o).cell? a0 = some v0 ∧ (W.alloc o).cell? a1 = some v1 ∧ (W.alloc o).cell? a2 = some v2 ∧ (W.alloc o).cell? a3 = some v3 := cB4 (bw_alloc (bw_refl _) _) h
theorem cS4 {W : World} {p m n : Nat} {x y : Value} {a0 a1 a2 a3 : Addr} {v0 v1 v2 v3 : Value} (h : W.cell? a0 = some v0 ∧ W.cell? a1 = some v1 ∧ W.cell? a2 = some v2 ∧ W.cell? a3 = some v3) (n0 : a0.block ≠ p) (n1 : a1.block ≠ p) (n2 : a2.block ≠ p) (n3 : a3.block ≠ p) : ((W.setCell ⟨p, m, none⟩ x).setCell ⟨p, n, none⟩ y).cell? a0 = some v0 ∧ ((W.setCell ⟨p, m, none⟩ x).setCell ⟨p, n, none⟩ y).cell? a1 = some v1 ∧ ((W.setCell ⟨p, m, none⟩ x).setCell ⟨p, n, none⟩ y).cell? a2 = some v2 ∧ ((W.setCell ⟨p, m, none⟩ x).setCell ⟨p, n, none⟩ y).cell? a3 = some v3 :=
  ⟨cellS2 h.1 n0, cellS2 h.2.1 n1, cellS2 h.2.2.1 n2, cellS2 h.2.2.2 n3⟩
theorem cT4 {W : World} {p m n k l : Nat} {x y z u : Value} {a0 a1 a2 a3 : Addr} {v0 v1 v2 v3 : Value} (h : W.cell? a0 = some v0 ∧ W.cell? a1 = some v1 ∧ W.cell? a2 = some v2 ∧ W.cell? a3 = some v3) (n0 : a0.block ≠ p) (n1 : a1.block ≠ p) (n2 : a2.block ≠ p) (n3 : a3.block ≠ p) : ((((W.setCell ⟨p, m, none⟩ x).setCell ⟨p, n, none⟩ y).setCell ⟨p, k, none⟩ z).setCell ⟨p, l, none⟩ u).cell? a0 = some v0 ∧ ((((W.setCell ⟨p, m, none⟩ x).setCell ⟨p, n, none⟩ y).setCell ⟨p, k, none⟩ z).setCell ⟨p, l, none⟩ u).cell? a1 = some v1 ∧ ((((W.setCell ⟨p, m, none⟩ x).setCell ⟨p, n, none⟩ y).setCell ⟨p, k, none⟩ z).setCell ⟨p, l, none⟩ u).cell? a2 = some v2 ∧ ((((W.setCell ⟨p, m, none⟩ x).setCell ⟨p, n, none⟩ y).setCell ⟨p, k, none⟩ z).setCell ⟨p, l, none⟩ u).cell? a3 = some v3 := cS4 (cS4 h n0 n1 n2 n3) n0 n1 n2 n3
theorem cB8 {W w : World} {a0 a1 a2 a3 a4 a5 a6 a7 : Addr} {v0 v1 v2 v3 v4 v5 v6 v7 : Value} (J : Below W.heap.size W w) (h : W.cell? a0 = some v0 ∧ W.cell? a1 = some v1 ∧ W.cell? a2 = some v2 ∧ W.cell? a3 = some v3 ∧ W.cell? a4 = some v4 ∧ W.cell? a5 = some v5 ∧ W.cell? a6 = some v6 ∧ W.cell? a7 = some v7) : w.cell? a0 = some v0 ∧ w.cell? a1 = some v1 ∧ w.cell? a2 = some v2 ∧ w.cell? a3 = some v3 ∧ w.cell? a4 = some v4 ∧ w.cell? a5 = some v5 ∧ w.cell? a6 = some v6 ∧ w.cell? a7 = some v7 :=
  ⟨cellB J h.1, cellB J h.2.1, cellB J h.2.2.1, cellB J h.2.2.2.1, cellB J h.2.2.2.2.1, cellB J h.2.2.2.2.2.1, cellB J h.2.2.2.2.2.2.1, cellB J h.2.2.2.2.2.2.2⟩
theorem cA8 {W : World} {o : Obj} {a0 a1 a2 a3 a4 a5 a6 a7 : Addr} {v0 v1 v2 v3 v4 v5 v6 v7 : Value} (h : W.cell? a0 = some v0 ∧ W.cell? a1 = some v1 ∧ W.cell? a2 = some v2 ∧ W.cell? a3 = some v3 ∧ W.cell? a4 = some v4 ∧ W.cell? a5 = some v5 ∧ W.cell? a6 = some v6 ∧ W.cell? a7 = some v7) : (W.alloc o).cell? a0 = some v0 ∧ (W.alloc o).cell? a1 = some v1 ∧ (W.alloc o).cell? a2 = some v2 ∧ (W.alloc o).cell? a3 = some v3 ∧ (W.alloc o).cell? a4 = some v4 ∧ (W.alloc o).cell? a5 = some v5 ∧ (W.alloc o).cell? a6 = some v6 ∧ (W.alloc o).cell? a7 = some v7 := cB8 (bw_alloc (bw_refl _) _) h
theorem cS8 {W : World} {p m n : Nat} {x y : Value} {a0 a1 a2 a3 a4 a5 a6 a7 : Addr} {v0 v1 v2 v3 v4 v5 v6 v7 : Value} (h : W.cell? a0 = some v0 ∧ W.cell? a1 = some v1 ∧ W.cell? a2 = some v2 ∧ W.cell? a3 = some v3 ∧ W.cell? a4 = some v4 ∧ W.cell? a5 = some v5 ∧ W.cell? a6 = some v6 ∧ W.cell? a7 = some v7) (n0 : a0.block ≠ p) (n1 : a1.block ≠ p) (n2 : a2.block ≠ p) (n3 : a3.block ≠ p) (n4 : a4.block ≠ p) (n5 : a5.block ≠ p) (n6 : a6.block ≠ p) (n7 : a7.block ≠ p) : ((W.setCell ⟨p, m, none⟩ x).setCell ⟨p, n, none⟩ y).cell? a0 = some v0 ∧ ((W.setCell ⟨p, m, none⟩ x).setCell ⟨p, n, none⟩ y).cell? a1 = some v1 ∧ ((W.setCell ⟨p, m, none⟩ x).setCell ⟨p, n, none⟩ y).cell? a2 = some v2 ∧ ((W.setCell ⟨p, m, none⟩ x).setCell ⟨p, n, none⟩ y).cell? a3 = some v3 ∧ ((W.setCell ⟨p, m, none⟩ x).setCell ⟨p, n, none⟩ y).cell? a4 = some v4 ∧ ((W.setCell ⟨p, m, none⟩ x).setCell ⟨p, n, none⟩ y).cell? a5 = some v5 ∧ ((W.setCell ⟨p, m, none⟩ x).setCell ⟨p, n, none⟩ y).cell? a6 = some v6 ∧ ((W.setCell ⟨p, m, none⟩ x).setCell ⟨p, n, none⟩ y).cell? a7 = some v7 :=
  ⟨cellS2 h.1 n0, cellS2 h.2.1 n1, cellS2 h.2.2.1 n2, cellS2 h.2.2.2.1 n3, cellS2 h.2.2.2.2.1 n4, cellS2 h.2.2.2.2.2.1 n5, cellS2 h.2.2.2.2.2.2.1 n6, cellS2 h.2.2.2.2.2.2.2 n7⟩
theorem cT8 {W : World} {p m n k l : Nat} {x y z u : Value} {a0 a1 a2 a3 a4 a5 a6 a7 : Addr} {v0 v1 v2 v3 v4 v5 v6 v7 : Value} (h : W.cell? a0 = some v0 ∧ W.cell? a1 = some v1 ∧ W.cell? a2 = some v2 ∧ W.cell? a3 = some v3 ∧ W.cell? a4 = some v4 ∧ W.cell? a5 = some v5 ∧ W.cell? a6 = some v6 ∧ W.cell? a7 = some v7) (n0 : a0.block ≠ p) (n1 : a1.block ≠ p) (n2 : a2.block ≠ p) (n3 : a3.block ≠ p) (n4 : a4.block ≠ p) (n5 : a5.block ≠ p) (n6 : a6.block ≠ p) (n7 : a7.block ≠ p) : ((((W.setCell ⟨p, m, none⟩ x).setCell ⟨p, n, none⟩ y).setCell ⟨p, k, none⟩ z).setCell ⟨p, l, none⟩ u).cell? a0 = some v0 ∧ ((((W.setCell ⟨p, m, none⟩ x).setCell ⟨p, n, none⟩ y).setCell ⟨p, k, none⟩ z).setCell ⟨p, l, none⟩ u).cell? a1 = some v1 ∧ ((((W.setCell ⟨p, m, none⟩ x).setCell ⟨p, n, none⟩ y).setCell ⟨p, k, none⟩ z).setCell ⟨p, l, none⟩ u).cell? a2 = some v2 ∧ ((((W.setCell ⟨p, m, none⟩ x).setCell ⟨p, n, none⟩ y).setCell ⟨p, k, none⟩ z).setCell ⟨p, l, none⟩ u).cell? a3 = some v3 ∧ ((((W.setCell ⟨p, m, none⟩ x).setCell ⟨p, n, none⟩ y).setCell ⟨p, k, none⟩ z).setCell ⟨p, l, none⟩ u).cell? a4 = some v4 ∧ ((((W.setCell ⟨p, m, none⟩ x).setCell ⟨p, n, none⟩ y).setCell ⟨p, k, none⟩ z).setCell ⟨p, l, none⟩ u).cell? a5 = some v5 ∧ ((((W.setCell ⟨p, m, none⟩ x).setCell ⟨p, n, none⟩ y).setCell ⟨p, k, none⟩ z).setCell ⟨p, l, none⟩ u).cell? a6 = some v6 ∧ ((((W.setCell ⟨p, m, none⟩ x).setCell ⟨p, n, none⟩ y).setCell ⟨p, k, none⟩ z).setCell ⟨p, l, none⟩ u).cell? a7 = some v7 := cS8 (cS8 h n0 n1 n2 n3 n4 n5 n6 n7) n0 n1 n2 n3 n4 n5 n6 n7
theorem cB9 {W w : World} {a0 a1 a2 a3 a4 a5 a6 a7 a8 : Addr} {v0 v1 v2 v3 v4 v5 v6 v7 v8 : Value} (J : Below W.heap.size W w) (h : W.cell? a0 = some v0 ∧ W.cell? a1 = some v1 ∧ W.cell? a2 = some v2 ∧ W.cell? a3 = some v3 ∧ W.cell? a4 = some v4 ∧ W.cell? a5 = some v5 ∧ W.cell? a6 = some v6 ∧ W.cell? a7 = some v7 ∧ W.cell? a8 = some v8) : w.cell? a0 = some v0 ∧ w.cell? a1 = some v1 ∧ w.cell? a2 = some v2 ∧ w.cell? a3 = some v3 ∧ w.cell? a4 = some v4 ∧ w.cell? a5 = some v5 ∧ w.cell? a6 = some v6 ∧ w.cell? a7 = some v7 ∧ w.cell? a8 = some v8 :=
  ⟨cellB J h.1, cellB J h.2.1, cellB J h.2.2.1, cellB J h.2.2.2.1, cellB J h.2.2.2.2.1, cellB J h.2.2.2.2.2.1, cellB J h.2.2.2.2.2.2.1, cellB J h.2.2.2.2.2.2.2.1, cellB J h.2.2.2.2.2.2.2.2⟩
theorem cA9 {W : World} {o : Obj} {a0 a1 a2 a3 a4 a5 a6 a7 a8 : Addr} {v0 v1 v2 v3 v4 v5 v6 v7 v8 : Value} (h : W.cell? a0 = some v0 ∧ W.cell? a1 = some v1 ∧ W.cell? a2 = some v2 ∧ W.cell? a3 = some v3 ∧ W.cell? a4 = some v4 ∧ W.cell? a5 = some v5 ∧ W.cell? a6 = some v6 ∧ W.cell? a7 = some v7 ∧ W.cell? a8 = some v8) : (W.alloc o).cell? a0 = some v0 ∧ (W.alloc o).cell? a1 = some v1 ∧ (W.alloc o).cell? a2 = some v2 ∧ (W.alloc o).cell? a3 = some v3 ∧ (W.alloc o).cell? a4 = some v4 ∧ (W.alloc o).cell? a5 = some v5 ∧ (W.alloc o).cell? a6 = some v6 ∧ (W.alloc o).cell? a7 = some v7 ∧ (W.alloc o).cell? a8 = some v8 := cB9 (bw_alloc (bw_refl _) _) h
theorem cS9 {W : World} {p m n : Nat} {x y : Value} {a0 a1 a2 a3 a4 a5 a6 a7 a8 : Addr} {v0 v1 v2 v3 v4 v5 v6 v7 v8 : Value} (h : W.cell? a0 = some v0 ∧ W.cell? a1 = some v1 ∧ W.cell? a2 = some v2 ∧ W.cell? a3 = some v3 ∧ W.cell? a4 = some v4 ∧ W.cell? a5 = some v5 ∧ W.cell? a6 = some v6 ∧ W.cell? a7 = some v7 ∧ W.cell? a8 = some v8) (n0 : a0.block ≠ p) (n1 : a1.block ≠ p) (n2 : a2.block ≠ p) (n3 : a3.block ≠ p) (n4 : a4.block ≠ p) (n5 : a5.block ≠ p) (n6 : a6.block ≠ p) (n7 : a7.block ≠ p) (n8 : a8.block ≠ p) : ((W.setCell ⟨p, m, none⟩ x).setCell ⟨p, n, none⟩ y).cell? a0 = some v0 ∧ ((W.setCell ⟨p, m, none⟩ x).setCell ⟨p, n, none⟩ y).cell? a1 = some v1 ∧ ((W.setCell ⟨p, m, none⟩ x).setCell ⟨p, n, none⟩ y).cell? a2 = some v2 ∧ ((W.setCell ⟨p, m, none⟩ x).setCell ⟨p, n, none⟩ y).cell? a3 = some v3 ∧ ((W.setCell ⟨p, m, none⟩ x).setCell ⟨p, n, none⟩ y).cell? a4 = some v4 ∧ ((W.setCell ⟨p, m, none⟩ x).setCell ⟨p, n, none⟩ y).cell? a5 = some v5 ∧ ((W.setCell ⟨p, m, none⟩ x).setCell ⟨p, n, none⟩ y).cell? a6 = some v6 ∧ ((W.setCell ⟨p, m, none⟩ x).setCell ⟨p, n, none⟩ y).cell? a7 = some v7 ∧ ((W.setCell ⟨p, m, none⟩ x).setCell ⟨p, n, none⟩ y).cell? a8 = some v8 :=
  ⟨cellS2 h.1 n0, cellS2 h.2.1 n1, cellS2 h.2.2.1 n2, cellS2 h.2.2.2.1 n3, cellS2 h.2.2.2.2.1 n4, cellS2 h.2.2.2.2.2.1 n5, cellS2 h.2.2.2.2.2.2.1 n6, cellS2 h.2.2.2.2.2.2.2.1 n7, cellS2 h.2.2.2.2.2.2.2.2 n8⟩
theorem cT9 {W : World} {p m n k l : Nat} {x y z u : Value} {a0 a1 a2 a3 a4 a5 a6 a7 a8 : Addr} {v0 v1 v2 v3 v4 v5 v6 v7 v8 : Value} (h : W.cell? a0 = some v0 ∧ W.cell? a1 = some v1 ∧ W.cell? a2 = some v2 ∧ W.cell? a3 = some v3 ∧ W.cell? a4 = some v4 ∧ W.cell? a5 = some v5 ∧ W.cell? a6 = some v6 ∧ W.cell? a7 = some v7 ∧ W.cell? a8 = some v8) (n0 : a0.block ≠ p) (n1 : a1.block ≠ p) (n2 : a2.block ≠ p) (n3 : a3.block ≠ p) (n4 : a4.block ≠ p) (n5 : a5.block ≠ p) (n6 : a6.block ≠ p) (n7 : a7.block ≠ p) (n8 : a8.block ≠ p) : ((((W.setCell ⟨p, m, none⟩ x).setCell ⟨p, n, none⟩ y).setCell ⟨p, k, none⟩ z).setCell ⟨p, l, none⟩ u).cell? a0 = some v0 ∧ ((((W.setCell ⟨p, m, none⟩ x).setCell ⟨p, n, none⟩ y).setCell ⟨p, k, none⟩ z).setCell ⟨p, l, none⟩ u).cell? a1 = some v1 ∧ ((((W.setCell ⟨p, m, none⟩ x).setCell ⟨p, n, none⟩ y).setCell ⟨p, k, none⟩ z).setCell ⟨p, l, none⟩ u).cell? a2 = some v2 ∧ ((((W.setCell ⟨p, m, none⟩ x).setCell ⟨p, n, none⟩ y).setCell ⟨p, k, none⟩ z).setCell ⟨p, l, none⟩ u).cell? a3 = some v3 ∧ ((((W.setCell ⟨p, m, none⟩ x).setCell ⟨p, n, none⟩ y).setCell ⟨p, k, none⟩ z).setCell ⟨p, l, none⟩ u).cell? a4 = some v4 ∧ ((((W.setCell ⟨p, m, none⟩ x).setCell ⟨p, n, none⟩ y).setCell ⟨p, k, none⟩ z).setCell ⟨p, l, none⟩ u).cell? a5 = some v5 ∧ ((((W.setCell ⟨p, m, none⟩ x).setCell ⟨p, n, none⟩ y).setCell ⟨p, k, none⟩ z).setCell ⟨p, l, none⟩ u).cell? a6 = some v6 ∧ ((((W.setCell ⟨p, m, none⟩ x).setCell ⟨p, n, none⟩ y).setCell ⟨p, k, none⟩ z).setCell ⟨p, l, none⟩ u).cell? a7 = some v7 ∧ ((((W.setCell ⟨p, m, none⟩ x).setCell ⟨p, n, none⟩ y).setCell ⟨p, k, none⟩ z).setCell ⟨p, l, none⟩ u).cell? a8 = some v8 := cS9 (cS9 h n0 n1 n2 n3 n4 n5 n6 n7 n8) n0 n1 n2 n3 n4 n5 n6 n7 n8
theorem cB6 {W w : World} {a0 a1 a2 a3 a4 a5 : Addr} {v0 v1 v2 v3 v4 v5 : Value} (J : Below W.heap.size W w) (h : W.cell? a0 = some v0 ∧ W.cell? a1 = some v1 ∧ W.cell? a2 = some v2 ∧ W.cell? a3 = some v3 ∧ W.cell? a4 = some v4 ∧ W.cell? a5 = some v5) : w.cell? a0 = some v0 ∧ w.cell? a1 = some v1 ∧ w.cell? a2 = some v2 ∧ w.cell? a3 = some v3 ∧ w.cell? a4 = some v4 ∧ w.cell? a5 = some v5 :=
  ⟨cellB J h.1, cellB J h.2.1, cellB J h.2.2.1, cellB J h.2.2.2.1, cellB J h.2.2.2.2.1, cellB J h.2.2.2.2.2⟩
theorem cA6 {W : World} {o : Obj} {a0 a1 a2 a3 a4 a5 : Addr} {v0 v1 v2 v3 v4 v5 : Value} (h : W.cell? a0 = some v0 ∧ W.cell? a1 = some v1 ∧ W.cell? a2 = some v2 ∧ W.cell? a3 = some v3 ∧ W.cell? a4 = some v4 ∧ W.cell? a5 = some v5) : (W.alloc o).cell? a0 = some v0 ∧ (W.alloc o).cell? a1 = some v1 ∧ (W.alloc o).cell? a2 = some v2 ∧ (W.alloc o).cell? a3 = some v3 ∧ (W.alloc o).cell? a4 = some v4 ∧ (W.alloc o).cell? a5 = some v5 := cB6 (bw_alloc (bw_refl _) _) h
theorem cS6 {W : World} {p m n : Nat} {x y : Value} {a0 a1 a2 a3 a4 a5 : Addr} {v0 v1 v2 v3 v4 v5 : Value} (h : W.cell? a0 = some v0 ∧ W.cell? a1 = some v1 ∧ W.cell? a2 = some v2 ∧ W.cell? a3 = some v3 ∧ W.cell? a4 = some v4 ∧ W.cell? a5 = some v5) (n0 : a0.block ≠ p) (n1 : a1.block ≠ p) (n2 : a2.block ≠ p) (n3 : a3.block ≠ p) (n4 : a4.block ≠ p) (n5 : a5.block ≠ p) : ((W.setCell ⟨p, m, none⟩ x).setCell ⟨p, n, none⟩ y).cell? a0 = some v0 ∧ ((W.setCell ⟨p, m, none⟩ x).setCell ⟨p, n, none⟩ y).cell? a1 = some v1 ∧ ((W.setCell ⟨p, m, none⟩ x).setCell ⟨p, n, none⟩ y).cell? a2 = some v2 ∧ ((W.setCell ⟨p, m, none⟩ x).setCell ⟨p, n, none⟩ y).cell? a3 = some v3 ∧ ((W.setCell ⟨p, m, none⟩ x).setCell ⟨p, n, none⟩ y).cell? a4 = some v4 ∧ ((W.setCell ⟨p, m, none⟩ x).setCell ⟨p, n, none⟩ y).cell? a5 = some v5 :=
  ⟨cellS2 h.1 n0, cellS2 h.2.1 n1, cellS2 h.2.2.1 n2, cellS2 h.2.2.2.1 n3, cellS2 h.2.2.2.2.1 n4, cellS2 h.2.2.2.2.2 n5⟩
end Go.Proofs.YtkncejcpeejkkaaGreatDoor
namespace Go.Proofs.YtkncejcpeejkkaaGreatDoor
open Go.RowKit Go.Sort

theorem square_ok (ax ay bx b_y : Int) (w : World) (ha : ptB ax ay = true) (hb : ptB bx b_y = true) :
    Calls Tryz.prog 50 #[.agg #[.int .i64 ax, .int .i64 ay], .agg #[.int .i64 bx, .int .i64 b_y]] w fun e w' => e = .returned (.int .i64 (dt ax ay bx b_y bx b_y)) ∧ Below w.heap.size w w' := by
  go_enter Tryz.func50, Tryz.ntmps50
  go_wp2_with fail
  refine (along_any _ _ _ _ _ _ _ ha hb hb).mono ?_
  rintro e w1 ⟨rfl, J⟩
  obtain ⟨hc, hf⟩ := bcell J
  go_wp2_with fail
  go_ret
  exact ⟨rfl, bw_trans (by repeat (first | exact bw_refl _ | assumption | apply bw_drewN | apply bw_drew | apply bw_alloc | refine bw_set ?_ (by simp) _)) J⟩
theorem grid_any (n d : Int) (ad : Addr) (w : World) (hs : Sent ad w) :
    Calls Tryz.prog 45 #[.int .i64 n, .int .i64 d] w fun e w' => e = .returned (.agg #[.int .i64 (ofN n d), .int .i64 (ofD n d)]) ∧ Below w.heap.size w w' := by
  have b0 : Below w.heap.size w (w.alloc (.cells #[.int .i64 0, .int .i64 0] 61)) := bw_alloc (bw_refl _) _
  go_enter Tryz.func45, Tryz.ntmps45
  go_wp2_with fail
  refine (fracOf_any _ _ ad _ (hs.below b0)).mono ?_
  rintro e w1 ⟨rfl, J⟩
  obtain ⟨hc, hf⟩ := bcell J
  have HB : Hid (Below w.heap.size w w1) := bw_trans (by repeat (first | exact bw_refl _ | assumption | apply bw_drewN | apply bw_drew | apply bw_alloc | refine bw_set ?_ (by simp) _)) J
  have F := keep J (heap_new _ _)
  have hz' := blk_lt F
  have F2 : (((w1.setCell ⟨w.heap.size, 0, none⟩ (.int .i64 (ofN n d))).setCell ⟨w.heap.size, 1, none⟩ (.int .i64 (ofD n d))).alloc (.cells #[.int .i64 (ofN n d), .int .i64 (ofD n d)] 61)).heap[w.heap.size]? = some (.cells #[.int .i64 (ofN n d), .int .i64 (ofD n d)] 61 (0, 0)) := (heap_old _ _ (by simpa [World.setCell] using hz')).trans (setF2 F)
  obtain ⟨r0, r1⟩ := blk_2 F2
  clear J F F2
  go_wp2_with fail
  exact bodyPost_ret (v := .agg #[.int .i64 (ofN n d), .int .i64 (ofD n d)]) (by simp [results, Tryz.results45, go_sem, r0, r1]) rfl ⟨rfl, by repeat (first | with_reducible exact HB.out | with_reducible refine bw_alloc ?_ _ | with_reducible refine bw_set ?_ (by dsimp only; omega) _)⟩
theorem of_one (n : Int) (h : 0 ≤ n) (h2 : n ≤ 99999) : ofN n 1 = n ∧ ofD n 1 = 1 := by
  have hi : inB n 1 = true := (inB_iff n 1).2 ⟨h, h2, by omega, by omega⟩
  unfold ofN ofD
  rw [hi, G_one]
  exact ⟨by simp, by simp⟩
theorem grid_one (n : Int) (h : 0 ≤ n) (h2 : n ≤ 99999) (ad : Addr) (w : World) (hs : Sent ad w) :
    Calls Tryz.prog 45 #[.int .i64 n, .int .i64 1] w fun e w' => e = .returned (.agg #[.int .i64 n, .int .i64 1]) ∧ Below w.heap.size w w' := by
  obtain ⟨e1, e2⟩ := of_one n h h2
  have := grid_any n 1 ad w hs
  rwa [e1, e2] at this
set_option maxHeartbeats 400000 in
theorem farFirst_ok (ax ay bx b_y px py : Int) (ad : Addr) (w : World) (h0 : Sent ad w) (gs : sgB ax ay bx b_y = true) (gp : ptB px py = true) :
    Calls Tryz.prog 100 #[.agg #[.int .i64 ax, .int .i64 ay, .int .i64 bx, .int .i64 b_y], .agg #[.int .i64 px, .int .i64 py]] w fun e w' => e = .returned (.agg #[.int .i64 (dt ax ay px py px py), .int .i64 1]) ∧ Below w.heap.size w w' := by
  obtain ⟨ha, hb, _⟩ := sg_parts gs
  have d1 := dt_self_nonneg ax ay px py
  have d2 := dt_bd ha gp gp
  have b0 : Below w.heap.size w (((w.alloc (.cells #[.int .i64 ax, .int .i64 ay, .int .i64 bx, .int .i64 b_y] 75)).alloc (.cells #[.int .i64 px, .int .i64 py] 43)).alloc (.cells #[.int .i64 0, .int .i64 0] 61)) := (by repeat (first | exact bw_refl _ | assumption | apply bw_drewN | apply bw_drew | apply bw_alloc | refine bw_set ?_ (by simp) _))
  go_enter Tryz.func100, Tryz.ntmps100
  go_wp2_with fail
  refine (square_ok _ _ _ _ _ ha gp).mono ?_
  rintro e w1 ⟨rfl, J⟩
  obtain ⟨hc, hf⟩ := bcell J
  go_wp2_with fail
  refine (grid_one _ d1 (by omega) ad _ (h0.below (bw_trans b0 J))).mono ?_
  rintro e w1 ⟨rfl, J2⟩
  replace J := bw_trans J J2
  clear hc hf J2
  obtain ⟨hc, hf⟩ := bcell J
  have HB : Hid (Below w.heap.size w w1) := bw_trans (by repeat (first | exact bw_refl _ | assumption | apply bw_drewN | apply bw_drew | apply bw_alloc | refine bw_set ?_ (by simp) _)) J
  have hz := J.size
  simp at hz
  have hz' : w.heap.size + 2 < w1.heap.size := by omega
  clear hz J
  go_wp2_with fail
  exact bodyPost_ret (v := .agg #[.int .i64 (dt ax ay px py px py), .int .i64 1]) (by simp [results, Tryz.results100, go_sem, hc]) rfl ⟨rfl, by repeat (first | with_reducible exact HB.out | refine bw_set ?_ (by dsimp only; omega) _)⟩
set_option maxHeartbeats 400000 in
theorem farLast_ok (ax ay bx b_y px py : Int) (ad : Addr) (w : World) (h0 : Sent ad w) (gs : sgB ax ay bx b_y = true) (gp : ptB px py = true) :
    Calls Tryz.prog 102 #[.agg #[.int .i64 ax, .int .i64 ay, .int .i64 bx, .int .i64 b_y], .agg #[.int .i64 px, .int .i64 py]] w fun e w' => e = .returned (.agg #[.int .i64 (dt bx b_y px py px py), .int .i64 1]) ∧ Below w.heap.size w w' := by
  obtain ⟨ha, hb, _⟩ := sg_parts gs
  have d1 := dt_self_nonneg bx b_y px py
  have d2 := dt_bd hb gp gp
  have b0 : Below w.heap.size w (((w.alloc (.cells #[.int .i64 ax, .int .i64 ay, .int .i64 bx, .int .i64 b_y] 75)).alloc (.cells #[.int .i64 px, .int .i64 py] 43)).alloc (.cells #[.int .i64 0, .int .i64 0] 61)) := (by repeat (first | exact bw_refl _ | assumption | apply bw_drewN | apply bw_drew | apply bw_alloc | refine bw_set ?_ (by simp) _))
  go_enter Tryz.func102, Tryz.ntmps102
  go_wp2_with fail
  refine (square_ok _ _ _ _ _ hb gp).mono ?_
  rintro e w1 ⟨rfl, J⟩
  obtain ⟨hc, hf⟩ := bcell J
  go_wp2_with fail
  refine (grid_one _ d1 (by omega) ad _ (h0.below (bw_trans b0 J))).mono ?_
  rintro e w1 ⟨rfl, J2⟩
  replace J := bw_trans J J2
  clear hc hf J2
  obtain ⟨hc, hf⟩ := bcell J
  have HB : Hid (Below w.heap.size w w1) := bw_trans (by repeat (first | exact bw_refl _ | assumption | apply bw_drewN | apply bw_drew | apply bw_alloc | refine bw_set ?_ (by simp) _)) J
  have hz := J.size
  simp at hz
  have hz' : w.heap.size + 2 < w1.heap.size := by omega
  clear hz J
  go_wp2_with fail
  exact bodyPost_ret (v := .agg #[.int .i64 (dt bx b_y px py px py), .int .i64 1]) (by simp [results, Tryz.results102, go_sem, hc]) rfl ⟨rfl, by repeat (first | with_reducible exact HB.out | refine bw_set ?_ (by dsimp only; omega) _)⟩
set_option maxHeartbeats 400000 in
theorem farLine_ok (ax ay bx b_y px py : Int) (ad : Addr) (w : World) (h0 : Sent ad w) (gs : sgB ax ay bx b_y = true) (gp : ptB px py = true) :
    Calls Tryz.prog 101 #[.agg #[.int .i64 ax, .int .i64 ay, .int .i64 bx, .int .i64 b_y], .agg #[.int .i64 px, .int .i64 py]] w fun e w' => e = .returned (.agg #[.int .i64 (ofN (crs ax ay bx b_y px py * crs ax ay bx b_y px py) (dt ax ay bx b_y bx b_y)), .int .i64 (ofD (crs ax ay bx b_y px py * crs ax ay bx b_y px py) (dt ax ay bx b_y bx b_y))]) ∧ Below w.heap.size w w' := by
  obtain ⟨ha, hb, _⟩ := sg_parts gs
  have d1 := crs_bd ha hb gp
  have d2 := prod_bd2 d1.1 d1.2 d1.1 d1.2
  have b0 : Below w.heap.size w (((w.alloc (.cells #[.int .i64 ax, .int .i64 ay, .int .i64 bx, .int .i64 b_y] 75)).alloc (.cells #[.int .i64 px, .int .i64 py] 43)).alloc (.cells #[.int .i64 0, .int .i64 0] 61)) := (by repeat (first | exact bw_refl _ | assumption | apply bw_drewN | apply bw_drew | apply bw_alloc | refine bw_set ?_ (by simp) _))
  go_enter Tryz.func101, Tryz.ntmps101
  go_wp2_with fail
  refine (swept_any _ _ _ _ _ _ _ ha hb gp).mono ?_
  rintro e w1 ⟨rfl, J⟩
  obtain ⟨hc, hf⟩ := bcell J
  go_wp2_with fail
  refine (square_ok _ _ _ _ _ ha hb).mono ?_
  rintro e w1 ⟨rfl, J2⟩
  replace J := bw_trans J J2
  clear hc hf J2
  obtain ⟨hc, hf⟩ := bcell J
  go_wp2_with fail
  refine (grid_any _ _ ad _ (h0.below (bw_trans b0 J))).mono ?_
  rintro e w1 ⟨rfl, J2⟩
  replace J := bw_trans J J2
  clear hc hf J2
  obtain ⟨hc, hf⟩ := bcell J
  have HB : Hid (Below w.heap.size w w1) := bw_trans (by repeat (first | exact bw_refl _ | assumption | apply bw_drewN | apply bw_drew | apply bw_alloc | refine bw_set ?_ (by simp) _)) J
  have hz := J.size
  simp at hz
  have hz' : w.heap.size + 2 < w1.heap.size := by omega
  clear hz J
  go_wp2_with fail
  exact bodyPost_ret (v := .agg #[.int .i64 (ofN (crs ax ay bx b_y px py * crs ax ay bx b_y px py) (dt ax ay bx b_y bx b_y)), .int .i64 (ofD (crs ax ay bx b_y px py * crs ax ay bx b_y px py) (dt ax ay bx b_y bx b_y))]) (by simp [results, Tryz.results101, go_sem, hc]) rfl ⟨rfl, by repeat (first | with_reducible exact HB.out | refine bw_set ?_ (by dsimp only; omega) _)⟩
theorem where_first (ax ay bx b_y px py : Int) (w : World) (gs : sgB ax ay bx b_y = true) (gp : ptB px py = true) (h : dt ax ay bx b_y px py ≤ 0) :
    Calls Tryz.prog 103 #[.agg #[.int .i64 ax, .int .i64 ay, .int .i64 bx, .int .i64 b_y], .agg #[.int .i64 px, .int .i64 py]] w fun e w' => e = .returned (.int .i64 0) ∧ Below w.heap.size w w' := by
  obtain ⟨ha, hb, _⟩ := sg_parts gs
  go_enter Tryz.func103, Tryz.ntmps103
  go_wp2_with fail
  refine (along_any _ _ _ _ _ _ _ ha hb gp).mono ?_
  rintro e w1 ⟨rfl, J⟩
  obtain ⟨hc, hf⟩ := bcell J
  go_wp2_with fail
  go_ret
  exact ⟨rfl, bw_trans (by repeat (first | exact bw_refl _ | assumption | apply bw_drewN | apply bw_drew | apply bw_alloc | refine bw_set ?_ (by simp) _)) J⟩
theorem where_last (ax ay bx b_y px py : Int) (w : World) (gs : sgB ax ay bx b_y = true) (gp : ptB px py = true) (h : ¬ dt ax ay bx b_y px py ≤ 0) (h2 : dt bx b_y ax ay px py ≤ 0) :
    Calls Tryz.prog 103 #[.agg #[.int .i64 ax, .int .i64 ay, .int .i64 bx, .int .i64 b_y], .agg #[.int .i64 px, .int .i64 py]] w fun e w' => e = .returned (.int .i64 2) ∧ Below w.heap.size w w' := by
  obtain ⟨ha, hb, _⟩ := sg_parts gs
  have h' : 0 < dt ax ay bx b_y px py := by omega
  clear h
  go_enter Tryz.func103, Tryz.ntmps103
  go_wp2_with fail
  refine (along_any _ _ _ _ _ _ _ ha hb gp).mono ?_
  rintro e w1 ⟨rfl, J⟩
  obtain ⟨hc, hf⟩ := bcell J
  go_wp2_with fail
  refine (along_any _ _ _ _ _ _ _ hb ha gp).mono ?_
  rintro e w1 ⟨rfl, J2⟩
  replace J := bw_trans J J2
  clear hc hf J2
  obtain ⟨hc, hf⟩ := bcell J
  go_wp2_with fail
  go_ret
  exact ⟨rfl, bw_trans (by repeat (first | exact bw_refl _ | assumption | apply bw_drewN | apply bw_drew | apply bw_alloc | refine bw_set ?_ (by simp) _)) J⟩
theorem where_line (ax ay bx b_y px py : Int) (w : World) (gs : sgB ax ay bx b_y = true) (gp : ptB px py = true) (h : ¬ dt ax ay bx b_y px py ≤ 0) (h2 : ¬ dt bx b_y ax ay px py ≤ 0) :
    Calls Tryz.prog 103 #[.agg #[.int .i64 ax, .int .i64 ay, .int .i64 bx, .int .i64 b_y], .agg #[.int .i64 px, .int .i64 py]] w fun e w' => e = .returned (.int .i64 1) ∧ Below w.heap.size w w' := by
  obtain ⟨ha, hb, _⟩ := sg_parts gs
  have h' : 0 < dt ax ay bx b_y px py := by omega
  have h2' : 0 < dt bx b_y ax ay px py := by omega
  clear h h2
  go_enter Tryz.func103, Tryz.ntmps103
  go_wp2_with fail
  refine (along_any _ _ _ _ _ _ _ ha hb gp).mono ?_
  rintro e w1 ⟨rfl, J⟩
  obtain ⟨hc, hf⟩ := bcell J
  go_wp2_with fail
  refine (along_any _ _ _ _ _ _ _ hb ha gp).mono ?_
  rintro e w1 ⟨rfl, J2⟩
  replace J := bw_trans J J2
  clear hc hf J2
  obtain ⟨hc, hf⟩ := bcell J
  go_wp2_with fail
  go_ret
  exact ⟨rfl, bw_trans (by repeat (first | exact bw_refl _ | assumption | apply bw_drewN | apply bw_drew | apply bw_alloc | refine bw_set ?_ (by simp) _)) J⟩
end Go.Proofs.YtkncejcpeejkkaaGreatDoor
namespace Go.Proofs.YtkncejcpeejkkaaGreatDoor
open Go.RowKit Go.Sort

/-- How far, at whatever arguments. -/
def farV (ax ay bx b_y px py : Int) : Int × Int := if sgB ax ay bx b_y && ptB px py then far ax ay bx b_y px py else (0, 0)
theorem ret_fr {a b c d : Int} (h : a = c) (h2 : b = d) : Ending.returned (.agg #[.int .i64 a, .int .i64 b]) = .returned (.agg #[.int .i64 c, .int .i64 d]) := by rw [h, h2]
theorem blk_3 {w : World} {b : Nat} {x y z : Value} {t : TypeId} (h : w.heap[b]? = some (.cells #[x, y, z] t (0, 0))) :
    w.cell? ⟨b, 0, none⟩ = some x ∧ w.cell? ⟨b, 1, none⟩ = some y ∧ w.cell? ⟨b, 2, none⟩ = some z := by
  refine ⟨?_, ?_, ?_⟩ <;> simp [World.cell?, h]
theorem blkF {w : World} {b : Nat} {x y : Value} {t : TypeId} (h : w.heap[b]? = some (.cells #[x, y] t (0, 0))) :
    w.cell? ⟨b, 0, none⟩ = some x ∧ w.cell? ⟨b, 1, none⟩ = some y ∧ w.frozen? ⟨b, 0, none⟩ = false ∧ w.frozen? ⟨b, 1, none⟩ = false := by
  refine ⟨?_, ?_, ?_, ?_⟩ <;> simp [World.cell?, World.frozen?, h]
theorem farV_ok {ax ay bx b_y px py : Int} (gs : sgB ax ay bx b_y = true) (gp : ptB px py = true) : farV ax ay bx b_y px py = far ax ay bx b_y px py := by unfold farV; rw [gs, gp]; rfl
set_option maxHeartbeats 1000000 in
theorem segFar_no (ax ay bx b_y px py : Int) (w : World) (h : sgB ax ay bx b_y = false ∨ (sgB ax ay bx b_y = true ∧ ptB px py = false)) :
    Calls Tryz.prog 85 #[.agg #[.int .i64 ax, .int .i64 ay, .int .i64 bx, .int .i64 b_y], .agg #[.int .i64 px, .int .i64 py]] w fun e w' => e = .returned (.agg #[.int .i64 0, .int .i64 0]) ∧ Below w.heap.size w w' := by
  rcases h with gs | ⟨gs, gp⟩
  · go_enter Tryz.func85, Tryz.ntmps85
    go_wp2_with fail
    refine (segOk_any _ _ _ _ _).mono ?_
    rw [gs]
    rintro e w1 ⟨rfl, J⟩
    obtain ⟨hc, hf⟩ := bcell J
    have HB : Hid (Below w.heap.size w w1) := bw_trans (by repeat (first | exact bw_refl _ | assumption | apply bw_drewN | apply bw_drew | apply bw_alloc | refine bw_set ?_ (by simp) _)) J
    have hz := J.size
    simp at hz
    have hz' : w.heap.size + 2 < w1.heap.size := by omega
    clear hz J
    go_wp2_with fail
    exact bodyPost_ret (v := .agg #[.int .i64 0, .int .i64 0]) (by simp [results, Tryz.results85, go_sem, hc]) rfl ⟨rfl, by repeat (first | with_reducible exact HB.out | with_reducible refine bw_set ?_ (by dsimp only; omega) _)⟩
  · go_enter Tryz.func85, Tryz.ntmps85
    go_wp2_with fail
    refine (segOk_any _ _ _ _ _).mono ?_
    rw [gs]
    rintro e w1 ⟨rfl, J⟩
    obtain ⟨hc, hf⟩ := bcell J
    go_wp2_with fail
    refine (ptOk_any _ _ _).mono ?_
    rw [gp]
    rintro e w1 ⟨rfl, J2⟩
    replace J := bw_trans J J2
    clear hc hf J2
    obtain ⟨hc, hf⟩ := bcell J
    have HB : Hid (Below w.heap.size w w1) := bw_trans (by repeat (first | exact bw_refl _ | assumption | apply bw_drewN | apply bw_drew | apply bw_alloc | refine bw_set ?_ (by simp) _)) J
    have hz := J.size
    simp at hz
    have hz' : w.heap.size + 2 < w1.heap.size := by omega
    clear hz J
    go_wp2_with fail
    exact bodyPost_ret (v := .agg #[.int .i64 0, .int .i64 0]) (by simp [results, Tryz.results85, go_sem, hc]) rfl ⟨rfl, by repeat (first | with_reducible exact HB.out | with_reducible refine bw_set ?_ (by dsimp only; omega) _)⟩
set_option maxHeartbeats 2000000 in
theorem segFar_first (ax ay bx b_y px py : Int) (ad : Addr) (w : World) (h0 : Sent ad w) (gs : sgB ax ay bx b_y = true) (gp : ptB px py = true) (h : dt ax ay bx b_y px py ≤ 0) :
    Calls Tryz.prog 85 #[.agg #[.int .i64 ax, .int .i64 ay, .int .i64 bx, .int .i64 b_y], .agg #[.int .i64 px, .int .i64 py]] w fun e w' => e = .returned (.agg #[.int .i64 (dt ax ay px py px py), .int .i64 1]) ∧ Below w.heap.size w w' := by
  have b0 : Below w.heap.size w (((w.alloc (.cells #[.int .i64 ax, .int .i64 ay, .int .i64 bx, .int .i64 b_y] 75)).alloc (.cells #[.int .i64 px, .int .i64 py] 43)).alloc (.cells #[.int .i64 0, .int .i64 0] 61)) := (by repeat (first | exact bw_refl _ | assumption | apply bw_drewN | apply bw_drew | apply bw_alloc | refine bw_set ?_ (by simp) _))
  obtain ⟨W, hW, BW, SB, PB, RB⟩ := boxes3 w (.cells #[.int .i64 ax, .int .i64 ay, .int .i64 bx, .int .i64 b_y] 75) (.cells #[.int .i64 px, .int .i64 py] 43) (.cells #[.int .i64 0, .int .i64 0] 61)
  have WH : Hid (∀ w, Calls Tryz.prog 103 #[.agg #[.int .i64 ax, .int .i64 ay, .int .i64 bx, .int .i64 b_y], .agg #[.int .i64 px, .int .i64 py]] w fun e w' => e = .returned (.int .i64 0) ∧ Below w.heap.size w w') := fun w => where_first ax ay bx b_y px py w gs gp h
  have FA : Hid (∀ w, Sent ad w → _) := fun w hs => farFirst_ok ax ay bx b_y px py ad w hs gs gp
  clear h
  go_enter Tryz.func85, Tryz.ntmps85
  go_wp2_with fail
  refine (segOk_any _ _ _ _ _).mono ?_
  rw [gs]
  rintro e w1 ⟨rfl, J⟩
  obtain ⟨hc, hf⟩ := bcell J
  go_wp2_with fail
  refine (ptOk_any _ _ _).mono ?_
  rw [gp]
  rintro e w1 ⟨rfl, J2⟩
  replace J := bw_trans J J2
  clear hc hf J2
  obtain ⟨hc, hf⟩ := bcell J
  go_upto_region 4 with fail
  have FT : Hid (∃ W2, W2 = w1.alloc (.cells #[.func (.func 100) #[] #[], .func (.func 101) #[] #[], .func (.func 102) #[] #[]] 146)) := ⟨_, rfl⟩
  obtain ⟨W2, hW2⟩ := FT.out
  rw [← hW2]
  rw [← hW] at J
  replace SB := keep J SB
  replace PB := keep J PB
  replace RB := keep J RB
  have zr := blk_lt RB
  have nz : w1.heap.size < W2.heap.size := by rw [hW2]; simp
  have A2 := bw_alloc (bw_refl w1) (.cells #[.func (.func 100) #[] #[], .func (.func 101) #[] #[], .func (.func 102) #[] #[]] 146)
  have TB := heap_new w1 (.cells #[.func (.func 100) #[] #[], .func (.func 101) #[] #[], .func (.func 102) #[] #[]] 146)
  rw [← hW2] at A2 TB
  replace SB := keep A2 SB
  replace PB := keep A2 PB
  replace RB := keep A2 RB
  have H := bw_trans BW (bw_trans J A2)
  have hS0 : (fun w' => w'.cell? ⟨w.heap.size, 0, none⟩ = some (.int .i64 ax) ∧ w'.cell? ⟨w.heap.size, 1, none⟩ = some (.int .i64 ay) ∧ w'.cell? ⟨w.heap.size, 2, none⟩ = some (.int .i64 bx) ∧ w'.cell? ⟨w.heap.size, 3, none⟩ = some (.int .i64 b_y) ∧ w'.cell? ⟨w.heap.size + 1, 0, none⟩ = some (.int .i64 px) ∧ w'.cell? ⟨w.heap.size + 1, 1, none⟩ = some (.int .i64 py) ∧ w'.cell? ⟨w1.heap.size, 0, none⟩ = some (.func (.func 100) #[] #[]) ∧ w'.cell? ⟨w1.heap.size, 1, none⟩ = some (.func (.func 101) #[] #[]) ∧ w'.cell? ⟨w1.heap.size, 2, none⟩ = some (.func (.func 102) #[] #[])) W2 := by
    obtain ⟨s0, s1, s2, s3⟩ := blk_4 SB
    obtain ⟨p0, p1⟩ := blk_2 PB
    obtain ⟨t0, t1, t2⟩ := blk_3 TB
    exact ⟨s0, s1, s2, s3, p0, p1, t0, t1, t2⟩
  clear hW hc hf J A2 SB PB TB BW b0 FT hW2
  have hsD : Sent ad W2.drew := h0.below H.drew
  replace H := H.drew
  replace RB : W2.drew.heap[w.heap.size + 2]? = _ := RB
  go_region_held3 (fun w' => w'.cell? ⟨w.heap.size, 0, none⟩ = some (.int .i64 ax) ∧ w'.cell? ⟨w.heap.size, 1, none⟩ = some (.int .i64 ay) ∧ w'.cell? ⟨w.heap.size, 2, none⟩ = some (.int .i64 bx) ∧ w'.cell? ⟨w.heap.size, 3, none⟩ = some (.int .i64 b_y) ∧ w'.cell? ⟨w.heap.size + 1, 0, none⟩ = some (.int .i64 px) ∧ w'.cell? ⟨w.heap.size + 1, 1, none⟩ = some (.int .i64 py) ∧ w'.cell? ⟨w1.heap.size, 0, none⟩ = some (.func (.func 100) #[] #[]) ∧ w'.cell? ⟨w1.heap.size, 1, none⟩ = some (.func (.func 101) #[] #[]) ∧ w'.cell? ⟨w1.heap.size, 2, none⟩ = some (.func (.func 102) #[] #[])) (first | exact cB9 K (by assumption) | exact hS0 | exact cS9 (by assumption) (by dsimp only; omega) (by dsimp only; omega) (by dsimp only; omega) (by dsimp only; omega) (by dsimp only; omega) (by dsimp only; omega) (by dsimp only; omega) (by dsimp only; omega) (by dsimp only; omega)) (first | (go_at_call 103; refine (WH.out _).mono ?_; rintro e w2 ⟨rfl, K⟩; have hs2 := hsD.below K; replace H := bw_trans H K; replace RB := keep K RB) | (go_at_call 100; refine (FA.out _ hs2).mono ?_; rintro e w3 ⟨rfl, K⟩; replace H := bw_trans H K; replace RB := keep K RB; obtain ⟨q0, q1, qf0, qf1⟩ := blkF RB))
  have HB : Hid _ := H
  have zz := blk_lt RB
  have R2 := setF2 RB (u0 := .int .i64 (dt ax ay px py px py)) (u1 := .int .i64 1)
  obtain ⟨r0, r1⟩ := blk_2 R2
  clear H RB R2
  go_wp2_with fail
  exact bodyPost_ret (v := .agg #[.int .i64 (dt ax ay px py px py), .int .i64 1]) (by simp [results, Tryz.results85, go_sem, r0, r1]) rfl ⟨rfl, by repeat (first | with_reducible exact HB.out | with_reducible refine bw_set ?_ (by dsimp only; omega) _)⟩
end Go.Proofs.YtkncejcpeejkkaaGreatDoor
namespace Go.Proofs.YtkncejcpeejkkaaGreatDoor
open Go.RowKit Go.Sort

set_option maxHeartbeats 2000000 in
theorem segFar_last (ax ay bx b_y px py : Int) (ad : Addr) (w : World) (h0 : Sent ad w) (gs : sgB ax ay bx b_y = true) (gp : ptB px py = true) (h : ¬ dt ax ay bx b_y px py ≤ 0) (h2 : dt bx b_y ax ay px py ≤ 0) :
    Calls Tryz.prog 85 #[.agg #[.int .i64 ax, .int .i64 ay, .int .i64 bx, .int .i64 b_y], .agg #[.int .i64 px, .int .i64 py]] w fun e w' => e = .returned (.agg #[.int .i64 (dt bx b_y px py px py), .int .i64 1]) ∧ Below w.heap.size w w' := by
  have b0 : Below w.heap.size w (((w.alloc (.cells #[.int .i64 ax, .int .i64 ay, .int .i64 bx, .int .i64 b_y] 75)).alloc (.cells #[.int .i64 px, .int .i64 py] 43)).alloc (.cells #[.int .i64 0, .int .i64 0] 61)) := (by repeat (first | exact bw_refl _ | assumption | apply bw_drewN | apply bw_drew | apply bw_alloc | refine bw_set ?_ (by simp) _))
  obtain ⟨W, hW, BW, SB, PB, RB⟩ := boxes3 w (.cells #[.int .i64 ax, .int .i64 ay, .int .i64 bx, .int .i64 b_y] 75) (.cells #[.int .i64 px, .int .i64 py] 43) (.cells #[.int .i64 0, .int .i64 0] 61)
  have WH : Hid (∀ w, Calls Tryz.prog 103 #[.agg #[.int .i64 ax, .int .i64 ay, .int .i64 bx, .int .i64 b_y], .agg #[.int .i64 px, .int .i64 py]] w fun e w' => e = .returned (.int .i64 2) ∧ Below w.heap.size w w') := fun w => where_last ax ay bx b_y px py w gs gp h h2
  have FA : Hid (∀ w, Sent ad w → _) := fun w hs => farLast_ok ax ay bx b_y px py ad w hs gs gp
  clear h h2
  go_enter Tryz.func85, Tryz.ntmps85
  go_wp2_with fail
  refine (segOk_any _ _ _ _ _).mono ?_
  rw [gs]
  rintro e w1 ⟨rfl, J⟩
  obtain ⟨hc, hf⟩ := bcell J
  go_wp2_with fail
  refine (ptOk_any _ _ _).mono ?_
  rw [gp]
  rintro e w1 ⟨rfl, J2⟩
  replace J := bw_trans J J2
  clear hc hf J2
  obtain ⟨hc, hf⟩ := bcell J
  go_upto_region 4 with fail
  have FT : Hid (∃ W2, W2 = w1.alloc (.cells #[.func (.func 100) #[] #[], .func (.func 101) #[] #[], .func (.func 102) #[] #[]] 146)) := ⟨_, rfl⟩
  obtain ⟨W2, hW2⟩ := FT.out
  rw [← hW2]
  rw [← hW] at J
  replace SB := keep J SB
  replace PB := keep J PB
  replace RB := keep J RB
  have zr := blk_lt RB
  have nz : w1.heap.size < W2.heap.size := by rw [hW2]; simp
  have A2 := bw_alloc (bw_refl w1) (.cells #[.func (.func 100) #[] #[], .func (.func 101) #[] #[], .func (.func 102) #[] #[]] 146)
  have TB := heap_new w1 (.cells #[.func (.func 100) #[] #[], .func (.func 101) #[] #[], .func (.func 102) #[] #[]] 146)
  rw [← hW2] at A2 TB
  replace SB := keep A2 SB
  replace PB := keep A2 PB
  replace RB := keep A2 RB
  have H := bw_trans BW (bw_trans J A2)
  have hS0 : (fun w' => w'.cell? ⟨w.heap.size, 0, none⟩ = some (.int .i64 ax) ∧ w'.cell? ⟨w.heap.size, 1, none⟩ = some (.int .i64 ay) ∧ w'.cell? ⟨w.heap.size, 2, none⟩ = some (.int .i64 bx) ∧ w'.cell? ⟨w.heap.size, 3, none⟩ = some (.int .i64 b_y) ∧ w'.cell? ⟨w.heap.size + 1, 0, none⟩ = some (.int .i64 px) ∧ w'.cell? ⟨w.heap.size + 1, 1, none⟩ = some (.int .i64 py) ∧ w'.cell? ⟨w1.heap.size, 0, none⟩ = some (.func (.func 100) #[] #[]) ∧ w'.cell? ⟨w1.heap.size, 1, none⟩ = some (.func (.func 101) #[] #[]) ∧ w'.cell? ⟨w1.heap.size, 2, none⟩ = some (.func (.func 102) #[] #[])) W2 := by
    obtain ⟨s0, s1, s2, s3⟩ := blk_4 SB
    obtain ⟨p0, p1⟩ := blk_2 PB
    obtain ⟨t0, t1, t2⟩ := blk_3 TB
    exact ⟨s0, s1, s2, s3, p0, p1, t0, t1, t2⟩
  clear hW hc hf J A2 SB PB TB BW b0 FT hW2
  have hsD : Sent ad W2.drew := h0.below H.drew
  replace H := H.drew
  replace RB : W2.drew.heap[w.heap.size + 2]? = _ := RB
  go_region_held3 (fun w' => w'.cell? ⟨w.heap.size, 0, none⟩ = some (.int .i64 ax) ∧ w'.cell? ⟨w.heap.size, 1, none⟩ = some (.int .i64 ay) ∧ w'.cell? ⟨w.heap.size, 2, none⟩ = some (.int .i64 bx) ∧ w'.cell? ⟨w.heap.size, 3, none⟩ = some (.int .i64 b_y) ∧ w'.cell? ⟨w.heap.size + 1, 0, none⟩ = some (.int .i64 px) ∧ w'.cell? ⟨w.heap.size + 1, 1, none⟩ = some (.int .i64 py) ∧ w'.cell? ⟨w1.heap.size, 0, none⟩ = some (.func (.func 100) #[] #[]) ∧ w'.cell? ⟨w1.heap.size, 1, none⟩ = some (.func (.func 101) #[] #[]) ∧ w'.cell? ⟨w1.heap.size, 2, none⟩ = some (.func (.func 102) #[] #[])) (first | exact cB9 K (by assumption) | exact hS0 | exact cS9 (by assumption) (by dsimp only; omega) (by dsimp only; omega) (by dsimp only; omega) (by dsimp only; omega) (by dsimp only; omega) (by dsimp only; omega) (by dsimp only; omega) (by dsimp only; omega) (by dsimp only; omega)) (first | (go_at_call 103; refine (WH.out _).mono ?_; rintro e w2 ⟨rfl, K⟩; have hs2 := hsD.below K; replace H := bw_trans H K; replace RB := keep K RB) | (go_at_call 102; refine (FA.out _ hs2).mono ?_; rintro e w3 ⟨rfl, K⟩; replace H := bw_trans H K; replace RB := keep K RB; obtain ⟨q0, q1, qf0, qf1⟩ := blkF RB))
  have HB : Hid _ := H
  have zz := blk_lt RB
  have R2 := setF2 RB (u0 := .int .i64 (dt bx b_y px py px py)) (u1 := .int .i64 1)
  obtain ⟨r0, r1⟩ := blk_2 R2
  clear H RB R2
  go_wp2_with fail
  exact bodyPost_ret (v := .agg #[.int .i64 (dt bx b_y px py px py), .int .i64 1]) (by simp [results, Tryz.results85, go_sem, r0, r1]) rfl ⟨rfl, by repeat (first | with_reducible exact HB.out | with_reducible refine bw_set ?_ (by dsimp only; omega) _)⟩
set_option maxHeartbeats 2000000 in
theorem segFar_line (ax ay bx b_y px py : Int) (ad : Addr) (w : World) (h0 : Sent ad w) (gs : sgB ax ay bx b_y = true) (gp : ptB px py = true) (h : ¬ dt ax ay bx b_y px py ≤ 0) (h2 : ¬ dt bx b_y ax ay px py ≤ 0) :
    Calls Tryz.prog 85 #[.agg #[.int .i64 ax, .int .i64 ay, .int .i64 bx, .int .i64 b_y], .agg #[.int .i64 px, .int .i64 py]] w fun e w' => e = .returned (.agg #[.int .i64 (ofN (crs ax ay bx b_y px py * crs ax ay bx b_y px py) (dt ax ay bx b_y bx b_y)), .int .i64 (ofD (crs ax ay bx b_y px py * crs ax ay bx b_y px py) (dt ax ay bx b_y bx b_y))]) ∧ Below w.heap.size w w' := by
  have b0 : Below w.heap.size w (((w.alloc (.cells #[.int .i64 ax, .int .i64 ay, .int .i64 bx, .int .i64 b_y] 75)).alloc (.cells #[.int .i64 px, .int .i64 py] 43)).alloc (.cells #[.int .i64 0, .int .i64 0] 61)) := (by repeat (first | exact bw_refl _ | assumption | apply bw_drewN | apply bw_drew | apply bw_alloc | refine bw_set ?_ (by simp) _))
  obtain ⟨W, hW, BW, SB, PB, RB⟩ := boxes3 w (.cells #[.int .i64 ax, .int .i64 ay, .int .i64 bx, .int .i64 b_y] 75) (.cells #[.int .i64 px, .int .i64 py] 43) (.cells #[.int .i64 0, .int .i64 0] 61)
  have WH : Hid (∀ w, Calls Tryz.prog 103 #[.agg #[.int .i64 ax, .int .i64 ay, .int .i64 bx, .int .i64 b_y], .agg #[.int .i64 px, .int .i64 py]] w fun e w' => e = .returned (.int .i64 1) ∧ Below w.heap.size w w') := fun w => where_line ax ay bx b_y px py w gs gp h h2
  have FA : Hid (∀ w, Sent ad w → _) := fun w hs => farLine_ok ax ay bx b_y px py ad w hs gs gp
  clear h h2
  go_enter Tryz.func85, Tryz.ntmps85
  go_wp2_with fail
  refine (segOk_any _ _ _ _ _).mono ?_
  rw [gs]
  rintro e w1 ⟨rfl, J⟩
  obtain ⟨hc, hf⟩ := bcell J
  go_wp2_with fail
  refine (ptOk_any _ _ _).mono ?_
  rw [gp]
  rintro e w1 ⟨rfl, J2⟩
  replace J := bw_trans J J2
  clear hc hf J2
  obtain ⟨hc, hf⟩ := bcell J
  go_upto_region 4 with fail
  have FT : Hid (∃ W2, W2 = w1.alloc (.cells #[.func (.func 100) #[] #[], .func (.func 101) #[] #[], .func (.func 102) #[] #[]] 146)) := ⟨_, rfl⟩
  obtain ⟨W2, hW2⟩ := FT.out
  rw [← hW2]
  rw [← hW] at J
  replace SB := keep J SB
  replace PB := keep J PB
  replace RB := keep J RB
  have zr := blk_lt RB
  have nz : w1.heap.size < W2.heap.size := by rw [hW2]; simp
  have A2 := bw_alloc (bw_refl w1) (.cells #[.func (.func 100) #[] #[], .func (.func 101) #[] #[], .func (.func 102) #[] #[]] 146)
  have TB := heap_new w1 (.cells #[.func (.func 100) #[] #[], .func (.func 101) #[] #[], .func (.func 102) #[] #[]] 146)
  rw [← hW2] at A2 TB
  replace SB := keep A2 SB
  replace PB := keep A2 PB
  replace RB := keep A2 RB
  have H := bw_trans BW (bw_trans J A2)
  have hS0 : (fun w' => w'.cell? ⟨w.heap.size, 0, none⟩ = some (.int .i64 ax) ∧ w'.cell? ⟨w.heap.size, 1, none⟩ = some (.int .i64 ay) ∧ w'.cell? ⟨w.heap.size, 2, none⟩ = some (.int .i64 bx) ∧ w'.cell? ⟨w.heap.size, 3, none⟩ = some (.int .i64 b_y) ∧ w'.cell? ⟨w.heap.size + 1, 0, none⟩ = some (.int .i64 px) ∧ w'.cell? ⟨w.heap.size + 1, 1, none⟩ = some (.int .i64 py) ∧ w'.cell? ⟨w1.heap.size, 0, none⟩ = some (.func (.func 100) #[] #[]) ∧ w'.cell? ⟨w1.heap.size, 1, none⟩ = some (.func (.func 101) #[] #[]) ∧ w'.cell? ⟨w1.heap.size, 2, none⟩ = some (.func (.func 102) #[] #[])) W2 := by
    obtain ⟨s0, s1, s2, s3⟩ := blk_4 SB
    obtain ⟨p0, p1⟩ := blk_2 PB
    obtain ⟨t0, t1, t2⟩ := blk_3 TB
    exact ⟨s0, s1, s2, s3, p0, p1, t0, t1, t2⟩
  clear hW hc hf J A2 SB PB TB BW b0 FT hW2
  have hsD : Sent ad W2.drew := h0.below H.drew
  replace H := H.drew
  replace RB : W2.drew.heap[w.heap.size + 2]? = _ := RB
  go_region_held3 (fun w' => w'.cell? ⟨w.heap.size, 0, none⟩ = some (.int .i64 ax) ∧ w'.cell? ⟨w.heap.size, 1, none⟩ = some (.int .i64 ay) ∧ w'.cell? ⟨w.heap.size, 2, none⟩ = some (.int .i64 bx) ∧ w'.cell? ⟨w.heap.size, 3, none⟩ = some (.int .i64 b_y) ∧ w'.cell? ⟨w.heap.size + 1, 0, none⟩ = some (.int .i64 px) ∧ w'.cell? ⟨w.heap.size + 1, 1, none⟩ = some (.int .i64 py) ∧ w'.cell? ⟨w1.heap.size, 0, none⟩ = some (.func (.func 100) #[] #[]) ∧ w'.cell? ⟨w1.heap.size, 1, none⟩ = some (.func (.func 101) #[] #[]) ∧ w'.cell? ⟨w1.heap.size, 2, none⟩ = some (.func (.func 102) #[] #[])) (first | exact cB9 K (by assumption) | exact hS0 | exact cS9 (by assumption) (by dsimp only; omega) (by dsimp only; omega) (by dsimp only; omega) (by dsimp only; omega) (by dsimp only; omega) (by dsimp only; omega) (by dsimp only; omega) (by dsimp only; omega) (by dsimp only; omega)) (first | (go_at_call 103; refine (WH.out _).mono ?_; rintro e w2 ⟨rfl, K⟩; have hs2 := hsD.below K; replace H := bw_trans H K; replace RB := keep K RB) | (go_at_call 101; refine (FA.out _ hs2).mono ?_; rintro e w3 ⟨rfl, K⟩; replace H := bw_trans H K; replace RB := keep K RB; obtain ⟨q0, q1, qf0, qf1⟩ := blkF RB))
  have HB : Hid _ := H
  have zz := blk_lt RB
  have R2 := setF2 RB (u0 := .int .i64 (ofN (crs ax ay bx b_y px py * crs ax ay bx b_y px py) (dt ax ay bx b_y bx b_y))) (u1 := .int .i64 (ofD (crs ax ay bx b_y px py * crs ax ay bx b_y px py) (dt ax ay bx b_y bx b_y)))
  obtain ⟨r0, r1⟩ := blk_2 R2
  clear H RB R2
  go_wp2_with fail
  exact bodyPost_ret (v := .agg #[.int .i64 (ofN (crs ax ay bx b_y px py * crs ax ay bx b_y px py) (dt ax ay bx b_y bx b_y)), .int .i64 (ofD (crs ax ay bx b_y px py * crs ax ay bx b_y px py) (dt ax ay bx b_y bx b_y))]) (by simp [results, Tryz.results85, go_sem, r0, r1]) rfl ⟨rfl, by repeat (first | with_reducible exact HB.out | with_reducible refine bw_set ?_ (by dsimp only; omega) _)⟩
theorem segFar_ok (ax ay bx b_y px py : Int) (ad : Addr) (w : World) (h0 : Sent ad w) (gs : sgB ax ay bx b_y = true) (gp : ptB px py = true) :
    Calls Tryz.prog 85 #[.agg #[.int .i64 ax, .int .i64 ay, .int .i64 bx, .int .i64 b_y], .agg #[.int .i64 px, .int .i64 py]] w fun e w' => e = .returned (.agg #[.int .i64 (far ax ay bx b_y px py).1, .int .i64 (far ax ay bx b_y px py).2]) ∧ Below w.heap.size w w' := by
  unfold far
  by_cases h : dt ax ay bx b_y px py ≤ 0
  · rw [if_pos h]; exact segFar_first _ _ _ _ _ _ ad w h0 gs gp h
  · rw [if_neg h]
    by_cases h2 : dt bx b_y ax ay px py ≤ 0
    · rw [if_pos h2]; exact segFar_last _ _ _ _ _ _ ad w h0 gs gp h h2
    · rw [if_neg h2]; exact segFar_line _ _ _ _ _ _ ad w h0 gs gp h h2
theorem segFar_any (ax ay bx b_y px py : Int) (ad : Addr) (w : World) (h0 : Sent ad w) :
    Calls Tryz.prog 85 #[.agg #[.int .i64 ax, .int .i64 ay, .int .i64 bx, .int .i64 b_y], .agg #[.int .i64 px, .int .i64 py]] w fun e w' => e = .returned (.agg #[.int .i64 (farV ax ay bx b_y px py).1, .int .i64 (farV ax ay bx b_y px py).2]) ∧ Below w.heap.size w w' := by
  cases gs : sgB ax ay bx b_y
  · have e : farV ax ay bx b_y px py = (0, 0) := by unfold farV; rw [gs]; rfl
    rw [e]; exact segFar_no _ _ _ _ _ _ w (.inl gs)
  · cases gp : ptB px py
    · have e : farV ax ay bx b_y px py = (0, 0) := by unfold farV; rw [gs, gp]; rfl
      rw [e]; exact segFar_no _ _ _ _ _ _ w (.inr ⟨gs, gp⟩)
    · rw [farV_ok gs gp]; exact segFar_ok _ _ _ _ _ _ ad w h0 gs gp
end Go.Proofs.YtkncejcpeejkkaaGreatDoor
namespace Go.Proofs.YtkncejcpeejkkaaGreatDoor
open Go.RowKit Go.Sort

end Go.Proofs.YtkncejcpeejkkaaGreatDoor
namespace Go.Proofs.YtkncejcpeejkkaaGreatDoor
open Go.RowKit Go.Sort

theorem cmpI_lt (x y : Int) (h : x < y) : cmpI x y = -1 := by unfold cmpI; rw [if_pos h]
theorem cmpI_ge (x y : Int) (h : ¬ x < y) : ¬ cmpI x y < 0 := by unfold cmpI; rw [if_neg h]; split <;> omega
/-- The block of three fractions. -/
def Three (w : World) (b : Nat) (f g h : Int × Int) : Prop := w.heap[b]? = some (.cells #[.int .i64 f.1, .int .i64 f.2, .int .i64 g.1, .int .i64 g.2, .int .i64 h.1, .int .i64 h.2] 61 (0, 0))
theorem setO2 {w : World} {b b' i j : Nat} {v u : Value} {o : Obj} (h : w.heap[b']? = some o) (hne : b' ≠ b) : ((w.setCell ⟨b, i, none⟩ v).setCell ⟨b, j, none⟩ u).heap[b']? = some o := by
  rw [Below.heap_setCell _ _ _ _ (by show b' ≠ b; exact hne), Below.heap_setCell _ _ _ _ (by show b' ≠ b; exact hne)]; exact h
theorem blk_6 {w : World} {b : Nat} {x0 x1 x2 x3 x4 x5 : Value} {t : TypeId} (h : w.heap[b]? = some (.cells #[x0, x1, x2, x3, x4, x5] t (0, 0))) :
    w.cell? ⟨b, 0, none⟩ = some x0 ∧ w.cell? ⟨b, 1, none⟩ = some x1 ∧ w.cell? ⟨b, 2, none⟩ = some x2 ∧ w.cell? ⟨b, 3, none⟩ = some x3 ∧ w.cell? ⟨b, 4, none⟩ = some x4 ∧ w.cell? ⟨b, 5, none⟩ = some x5 := by
  refine ⟨?_, ?_, ?_, ?_, ?_, ?_⟩ <;> simp [World.cell?, h]
set_option maxHeartbeats 2000000 in
theorem least_ok (f0 f1 f2 f3 : Int × Int) (bs : Nat) (ad : Addr) (w : World) (h0 : Sent ad w) (o0 : OkF f0) (o1 : OkF f1) (o2 : OkF f2) (o3 : OkF f3) (TH : Three w bs f1 f2 f3) :
    Calls Tryz.prog 68 #[.agg #[.int .i64 f0.1, .int .i64 f0.2], .slice (some ⟨bs, 0, none⟩) 3 3] w fun e w' => e = .returned (.agg #[.int .i64 (mnA f0 f1 f2 f3).1, .int .i64 (mnA f0 f1 f2 f3).2]) ∧ Below w.heap.size w w' := by
  unfold Three at TH
  have zb := blk_lt TH
  obtain ⟨W, hW, H, _, RB, LB⟩ := boxes3 w (.cells #[.int .i64 f0.1, .int .i64 f0.2] 61) (.cells #[.int .i64 0, .int .i64 0] 61) (.cells #[.int .i64 f0.1, .int .i64 f0.2] 61)
  replace TH := keep H TH
  have nb : bs ≠ w.heap.size + 1 ∧ bs ≠ w.heap.size + 2 := by omega
  obtain ⟨nb1, nb2⟩ := nb
  go_enter Tryz.func68, Tryz.ntmps68
  go_upto_region 3 with fail
  rw [← hW]
  clear hW
  refine wp_loop_rounds 4 ?_
  rw [rounds_succ]
  obtain ⟨t0, t1, t2, t3, t4, t5⟩ := blk_6 TH
  obtain ⟨l0, l1⟩ := blk_2 LB
  have zl := blk_lt LB
  have zt := blk_lt TH
  have hs1 := h0.below H
  by_cases c1 : f1.1 * f0.2 < f0.1 * f1.2
  · have m1 : mn f0 f1 = f1 := if_pos c1
    have e1 := cmpI_lt _ _ c1
    clear c1
    go_wp2_with fail
    refine (fracCmp_both f1.1 f1.2 f0.1 f0.2 ad _ (hs1.below (bw_alloc (bw_refl _) _)) o1 o0).mono ?_
    rw [e1]
    rintro e w1 ⟨rfl, K⟩
    have FB := keep K (heap_new _ _)
    replace LB := keep K ((heap_old _ _ (blk_lt LB)).trans LB)
    replace RB := keep K ((heap_old _ _ (blk_lt RB)).trans RB)
    replace TH := keep K ((heap_old _ _ (blk_lt TH)).trans TH)
    replace H := bw_trans (bw_alloc H _) K
    clear t0 t1 t2 t3 t4 t5 l0 l1 K hs1
    have zf := blk_lt FB
    have zl1 := blk_lt LB
    obtain ⟨u0, u1⟩ := blk_2 FB
    obtain ⟨q0, q1, qf0, qf1⟩ := blkF LB
    go_wp2_with fail
    replace LB := setF2 LB (u0 := .int .i64 f1.1) (u1 := .int .i64 f1.2)
    replace RB := setO2 RB (b := w.heap.size + 2) (i := 0) (j := 1) (v := .int .i64 f1.1) (u := .int .i64 f1.2) (by omega)
    replace TH := setO2 TH (b := w.heap.size + 2) (i := 0) (j := 1) (v := .int .i64 f1.1) (u := .int .i64 f1.2) (by omega)
    replace H := bw_set (bw_set H (p := ⟨w.heap.size + 2, 0, none⟩) (by dsimp only; omega) (.int .i64 f1.1)) (p := ⟨w.heap.size + 2, 1, none⟩) (by dsimp only; omega) (.int .i64 f1.2)
    clear q0 q1 qf0 qf1 e1
    generalize ((w1.setCell ⟨w.heap.size + 2, 0, none⟩ (.int .i64 f1.1)).setCell ⟨w.heap.size + 2, 1, none⟩ (.int .i64 f1.2)) = V1 at LB RB TH H ⊢
    clear u0 u1 FB zf zl zl1 zt
    rw [rounds_succ]
    obtain ⟨t0, t1, t2, t3, t4, t5⟩ := blk_6 TH
    obtain ⟨l0, l1⟩ := blk_2 LB
    have zl := blk_lt LB
    have zt := blk_lt TH
    have hs2 := h0.below H
    by_cases c2 : f2.1 * f1.2 < f1.1 * f2.2
    · have m2 : mn f1 f2 = f2 := if_pos c2
      have e2 := cmpI_lt _ _ c2
      clear c2
      go_wp2_with fail
      refine (fracCmp_both f2.1 f2.2 f1.1 f1.2 ad _ (hs2.below (bw_alloc (bw_refl _) _)) o2 o1).mono ?_
      rw [e2]
      rintro e w2 ⟨rfl, K⟩
      have FB := keep K (heap_new _ _)
      replace LB := keep K ((heap_old _ _ (blk_lt LB)).trans LB)
      replace RB := keep K ((heap_old _ _ (blk_lt RB)).trans RB)
      replace TH := keep K ((heap_old _ _ (blk_lt TH)).trans TH)
      replace H := bw_trans (bw_alloc H _) K
      clear t0 t1 t2 t3 t4 t5 l0 l1 K hs2
      have zf := blk_lt FB
      have zl2 := blk_lt LB
      obtain ⟨u0, u1⟩ := blk_2 FB
      obtain ⟨q0, q1, qf0, qf1⟩ := blkF LB
      go_wp2_with fail
      replace LB := setF2 LB (u0 := .int .i64 f2.1) (u1 := .int .i64 f2.2)
      replace RB := setO2 RB (b := w.heap.size + 2) (i := 0) (j := 1) (v := .int .i64 f2.1) (u := .int .i64 f2.2) (by omega)
      replace TH := setO2 TH (b := w.heap.size + 2) (i := 0) (j := 1) (v := .int .i64 f2.1) (u := .int .i64 f2.2) (by omega)
      replace H := bw_set (bw_set H (p := ⟨w.heap.size + 2, 0, none⟩) (by dsimp only; omega) (.int .i64 f2.1)) (p := ⟨w.heap.size + 2, 1, none⟩) (by dsimp only; omega) (.int .i64 f2.2)
      clear q0 q1 qf0 qf1 e2
      generalize ((w2.setCell ⟨w.heap.size + 2, 0, none⟩ (.int .i64 f2.1)).setCell ⟨w.heap.size + 2, 1, none⟩ (.int .i64 f2.2)) = V2 at LB RB TH H ⊢
      clear u0 u1 FB zf zl zl2 zt
      rw [rounds_succ]
      obtain ⟨t0, t1, t2, t3, t4, t5⟩ := blk_6 TH
      obtain ⟨l0, l1⟩ := blk_2 LB
      have zl := blk_lt LB
      have zt := blk_lt TH
      have hs3 := h0.below H
      by_cases c3 : f3.1 * f2.2 < f2.1 * f3.2
      · have m3 : mn f2 f3 = f3 := if_pos c3
        have e3 := cmpI_lt _ _ c3
        clear c3
        go_wp2_with fail
        refine (fracCmp_both f3.1 f3.2 f2.1 f2.2 ad _ (hs3.below (bw_alloc (bw_refl _) _)) o3 o2).mono ?_
        rw [e3]
        rintro e w3 ⟨rfl, K⟩
        have FB := keep K (heap_new _ _)
        replace LB := keep K ((heap_old _ _ (blk_lt LB)).trans LB)
        replace RB := keep K ((heap_old _ _ (blk_lt RB)).trans RB)
        replace TH := keep K ((heap_old _ _ (blk_lt TH)).trans TH)
        replace H := bw_trans (bw_alloc H _) K
        clear t0 t1 t2 t3 t4 t5 l0 l1 K hs3
        have zf := blk_lt FB
        have zl3 := blk_lt LB
        obtain ⟨u0, u1⟩ := blk_2 FB
        obtain ⟨q0, q1, qf0, qf1⟩ := blkF LB
        go_wp2_with fail
        replace LB := setF2 LB (u0 := .int .i64 f3.1) (u1 := .int .i64 f3.2)
        replace RB := setO2 RB (b := w.heap.size + 2) (i := 0) (j := 1) (v := .int .i64 f3.1) (u := .int .i64 f3.2) (by omega)
        replace TH := setO2 TH (b := w.heap.size + 2) (i := 0) (j := 1) (v := .int .i64 f3.1) (u := .int .i64 f3.2) (by omega)
        replace H := bw_set (bw_set H (p := ⟨w.heap.size + 2, 0, none⟩) (by dsimp only; omega) (.int .i64 f3.1)) (p := ⟨w.heap.size + 2, 1, none⟩) (by dsimp only; omega) (.int .i64 f3.2)
        clear q0 q1 qf0 qf1 e3
        generalize ((w3.setCell ⟨w.heap.size + 2, 0, none⟩ (.int .i64 f3.1)).setCell ⟨w.heap.size + 2, 1, none⟩ (.int .i64 f3.2)) = V3 at LB RB TH H ⊢
        clear u0 u1 FB zf zl zl3 zt
        rw [rounds_succ]
        obtain ⟨l0, l1⟩ := blk_2 LB
        have zl := blk_lt LB
        have zr := blk_lt RB
        obtain ⟨q0, q1, qf0, qf1⟩ := blkF RB
        have R2 := setF2 RB (u0 := .int .i64 f3.1) (u1 := .int .i64 f3.2)
        obtain ⟨r0, r1⟩ := blk_2 R2
        have HB : Hid _ := H
        have e1 : Hid (mnA f0 f1 f2 f3 = f3) := by change _ = _; unfold mnA; rw [m1, m2, m3]
        clear R2 RB LB TH H m1 m2 m3
        go_wp2_with fail
        exact bodyPost_ret (v := .agg #[.int .i64 f3.1, .int .i64 f3.2]) (by simp [results, Tryz.results68, go_sem, r0, r1]) rfl ⟨by rw [e1.out], by repeat (first | with_reducible exact HB.out | with_reducible refine bw_set ?_ (by dsimp only; omega) _)⟩
      · have m3 : mn f2 f3 = f2 := if_neg c3
        have g3 := cmpI_ge _ _ c3
        generalize hx3 : cmpI (f3.1 * f2.2) (f2.1 * f3.2) = x3 at g3
        have HX3 : Hid (cmpI (f3.1 * f2.2) (f2.1 * f3.2) = x3) := hx3
        have p3 : 0 ≤ x3 := by omega
        clear hx3 g3
        clear c3
        go_wp2_with fail
        refine (fracCmp_both f3.1 f3.2 f2.1 f2.2 ad _ (hs3.below (bw_alloc (bw_refl _) _)) o3 o2).mono ?_
        rw [HX3.out]
        rintro e w3 ⟨rfl, K⟩
        have FB := keep K (heap_new _ _)
        replace LB := keep K ((heap_old _ _ (blk_lt LB)).trans LB)
        replace RB := keep K ((heap_old _ _ (blk_lt RB)).trans RB)
        replace TH := keep K ((heap_old _ _ (blk_lt TH)).trans TH)
        replace H := bw_trans (bw_alloc H _) K
        clear t0 t1 t2 t3 t4 t5 l0 l1 K hs3
        have zf := blk_lt FB
        have zl3 := blk_lt LB
        obtain ⟨u0, u1⟩ := blk_2 FB
        go_wp2_with fail
        clear u0 u1 FB zf zl zl3 zt
        rw [rounds_succ]
        obtain ⟨l0, l1⟩ := blk_2 LB
        have zl := blk_lt LB
        have zr := blk_lt RB
        obtain ⟨q0, q1, qf0, qf1⟩ := blkF RB
        have R2 := setF2 RB (u0 := .int .i64 f2.1) (u1 := .int .i64 f2.2)
        obtain ⟨r0, r1⟩ := blk_2 R2
        have HB : Hid _ := H
        have e1 : Hid (mnA f0 f1 f2 f3 = f2) := by change _ = _; unfold mnA; rw [m1, m2, m3]
        clear R2 RB LB TH H m1 m2 m3
        go_wp2_with fail
        exact bodyPost_ret (v := .agg #[.int .i64 f2.1, .int .i64 f2.2]) (by simp [results, Tryz.results68, go_sem, r0, r1]) rfl ⟨by rw [e1.out], by repeat (first | with_reducible exact HB.out | with_reducible refine bw_set ?_ (by dsimp only; omega) _)⟩
    · have m2 : mn f1 f2 = f1 := if_neg c2
      have g2 := cmpI_ge _ _ c2
      generalize hx2 : cmpI (f2.1 * f1.2) (f1.1 * f2.2) = x2 at g2
      have HX2 : Hid (cmpI (f2.1 * f1.2) (f1.1 * f2.2) = x2) := hx2
      have p2 : 0 ≤ x2 := by omega
      clear hx2 g2
      clear c2
      go_wp2_with fail
      refine (fracCmp_both f2.1 f2.2 f1.1 f1.2 ad _ (hs2.below (bw_alloc (bw_refl _) _)) o2 o1).mono ?_
      rw [HX2.out]
      rintro e w2 ⟨rfl, K⟩
      have FB := keep K (heap_new _ _)
      replace LB := keep K ((heap_old _ _ (blk_lt LB)).trans LB)
      replace RB := keep K ((heap_old _ _ (blk_lt RB)).trans RB)
      replace TH := keep K ((heap_old _ _ (blk_lt TH)).trans TH)
      replace H := bw_trans (bw_alloc H _) K
      clear t0 t1 t2 t3 t4 t5 l0 l1 K hs2
      have zf := blk_lt FB
      have zl2 := blk_lt LB
      obtain ⟨u0, u1⟩ := blk_2 FB
      go_wp2_with fail
      clear u0 u1 FB zf zl zl2 zt
      rw [rounds_succ]
      obtain ⟨t0, t1, t2, t3, t4, t5⟩ := blk_6 TH
      obtain ⟨l0, l1⟩ := blk_2 LB
      have zl := blk_lt LB
      have zt := blk_lt TH
      have hs3 := h0.below H
      by_cases c3 : f3.1 * f1.2 < f1.1 * f3.2
      · have m3 : mn f1 f3 = f3 := if_pos c3
        have e3 := cmpI_lt _ _ c3
        clear c3
        go_wp2_with fail
        refine (fracCmp_both f3.1 f3.2 f1.1 f1.2 ad _ (hs3.below (bw_alloc (bw_refl _) _)) o3 o1).mono ?_
        rw [e3]
        rintro e w3 ⟨rfl, K⟩
        have FB := keep K (heap_new _ _)
        replace LB := keep K ((heap_old _ _ (blk_lt LB)).trans LB)
        replace RB := keep K ((heap_old _ _ (blk_lt RB)).trans RB)
        replace TH := keep K ((heap_old _ _ (blk_lt TH)).trans TH)
        replace H := bw_trans (bw_alloc H _) K
        clear t0 t1 t2 t3 t4 t5 l0 l1 K hs3
        have zf := blk_lt FB
        have zl3 := blk_lt LB
        obtain ⟨u0, u1⟩ := blk_2 FB
        obtain ⟨q0, q1, qf0, qf1⟩ := blkF LB
        go_wp2_with fail
        replace LB := setF2 LB (u0 := .int .i64 f3.1) (u1 := .int .i64 f3.2)
        replace RB := setO2 RB (b := w.heap.size + 2) (i := 0) (j := 1) (v := .int .i64 f3.1) (u := .int .i64 f3.2) (by omega)
        replace TH := setO2 TH (b := w.heap.size + 2) (i := 0) (j := 1) (v := .int .i64 f3.1) (u := .int .i64 f3.2) (by omega)
        replace H := bw_set (bw_set H (p := ⟨w.heap.size + 2, 0, none⟩) (by dsimp only; omega) (.int .i64 f3.1)) (p := ⟨w.heap.size + 2, 1, none⟩) (by dsimp only; omega) (.int .i64 f3.2)
        clear q0 q1 qf0 qf1 e3
        generalize ((w3.setCell ⟨w.heap.size + 2, 0, none⟩ (.int .i64 f3.1)).setCell ⟨w.heap.size + 2, 1, none⟩ (.int .i64 f3.2)) = V3 at LB RB TH H ⊢
        clear u0 u1 FB zf zl zl3 zt
        rw [rounds_succ]
        obtain ⟨l0, l1⟩ := blk_2 LB
        have zl := blk_lt LB
        have zr := blk_lt RB
        obtain ⟨q0, q1, qf0, qf1⟩ := blkF RB
        have R2 := setF2 RB (u0 := .int .i64 f3.1) (u1 := .int .i64 f3.2)
        obtain ⟨r0, r1⟩ := blk_2 R2
        have HB : Hid _ := H
        have e1 : Hid (mnA f0 f1 f2 f3 = f3) := by change _ = _; unfold mnA; rw [m1, m2, m3]
        clear R2 RB LB TH H m1 m2 m3
        go_wp2_with fail
        exact bodyPost_ret (v := .agg #[.int .i64 f3.1, .int .i64 f3.2]) (by simp [results, Tryz.results68, go_sem, r0, r1]) rfl ⟨by rw [e1.out], by repeat (first | with_reducible exact HB.out | with_reducible refine bw_set ?_ (by dsimp only; omega) _)⟩
      · have m3 : mn f1 f3 = f1 := if_neg c3
        have g3 := cmpI_ge _ _ c3
        generalize hx3 : cmpI (f3.1 * f1.2) (f1.1 * f3.2) = x3 at g3
        have HX3 : Hid (cmpI (f3.1 * f1.2) (f1.1 * f3.2) = x3) := hx3
        have p3 : 0 ≤ x3 := by omega
        clear hx3 g3
        clear c3
        go_wp2_with fail
        refine (fracCmp_both f3.1 f3.2 f1.1 f1.2 ad _ (hs3.below (bw_alloc (bw_refl _) _)) o3 o1).mono ?_
        rw [HX3.out]
        rintro e w3 ⟨rfl, K⟩
        have FB := keep K (heap_new _ _)
        replace LB := keep K ((heap_old _ _ (blk_lt LB)).trans LB)
        replace RB := keep K ((heap_old _ _ (blk_lt RB)).trans RB)
        replace TH := keep K ((heap_old _ _ (blk_lt TH)).trans TH)
        replace H := bw_trans (bw_alloc H _) K
        clear t0 t1 t2 t3 t4 t5 l0 l1 K hs3
        have zf := blk_lt FB
        have zl3 := blk_lt LB
        obtain ⟨u0, u1⟩ := blk_2 FB
        go_wp2_with fail
        clear u0 u1 FB zf zl zl3 zt
        rw [rounds_succ]
        obtain ⟨l0, l1⟩ := blk_2 LB
        have zl := blk_lt LB
        have zr := blk_lt RB
        obtain ⟨q0, q1, qf0, qf1⟩ := blkF RB
        have R2 := setF2 RB (u0 := .int .i64 f1.1) (u1 := .int .i64 f1.2)
        obtain ⟨r0, r1⟩ := blk_2 R2
        have HB : Hid _ := H
        have e1 : Hid (mnA f0 f1 f2 f3 = f1) := by change _ = _; unfold mnA; rw [m1, m2, m3]
        clear R2 RB LB TH H m1 m2 m3
        go_wp2_with fail
        exact bodyPost_ret (v := .agg #[.int .i64 f1.1, .int .i64 f1.2]) (by simp [results, Tryz.results68, go_sem, r0, r1]) rfl ⟨by rw [e1.out], by repeat (first | with_reducible exact HB.out | with_reducible refine bw_set ?_ (by dsimp only; omega) _)⟩
  · have m1 : mn f0 f1 = f0 := if_neg c1
    have g1 := cmpI_ge _ _ c1
    generalize hx1 : cmpI (f1.1 * f0.2) (f0.1 * f1.2) = x1 at g1
    have HX1 : Hid (cmpI (f1.1 * f0.2) (f0.1 * f1.2) = x1) := hx1
    have p1 : 0 ≤ x1 := by omega
    clear hx1 g1
    clear c1
    go_wp2_with fail
    refine (fracCmp_both f1.1 f1.2 f0.1 f0.2 ad _ (hs1.below (bw_alloc (bw_refl _) _)) o1 o0).mono ?_
    rw [HX1.out]
    rintro e w1 ⟨rfl, K⟩
    have FB := keep K (heap_new _ _)
    replace LB := keep K ((heap_old _ _ (blk_lt LB)).trans LB)
    replace RB := keep K ((heap_old _ _ (blk_lt RB)).trans RB)
    replace TH := keep K ((heap_old _ _ (blk_lt TH)).trans TH)
    replace H := bw_trans (bw_alloc H _) K
    clear t0 t1 t2 t3 t4 t5 l0 l1 K hs1
    have zf := blk_lt FB
    have zl1 := blk_lt LB
    obtain ⟨u0, u1⟩ := blk_2 FB
    go_wp2_with fail
    clear u0 u1 FB zf zl zl1 zt
    rw [rounds_succ]
    obtain ⟨t0, t1, t2, t3, t4, t5⟩ := blk_6 TH
    obtain ⟨l0, l1⟩ := blk_2 LB
    have zl := blk_lt LB
    have zt := blk_lt TH
    have hs2 := h0.below H
    by_cases c2 : f2.1 * f0.2 < f0.1 * f2.2
    · have m2 : mn f0 f2 = f2 := if_pos c2
      have e2 := cmpI_lt _ _ c2
      clear c2
      go_wp2_with fail
      refine (fracCmp_both f2.1 f2.2 f0.1 f0.2 ad _ (hs2.below (bw_alloc (bw_refl _) _)) o2 o0).mono ?_
      rw [e2]
      rintro e w2 ⟨rfl, K⟩
      have FB := keep K (heap_new _ _)
      replace LB := keep K ((heap_old _ _ (blk_lt LB)).trans LB)
      replace RB := keep K ((heap_old _ _ (blk_lt RB)).trans RB)
      replace TH := keep K ((heap_old _ _ (blk_lt TH)).trans TH)
      replace H := bw_trans (bw_alloc H _) K
      clear t0 t1 t2 t3 t4 t5 l0 l1 K hs2
      have zf := blk_lt FB
      have zl2 := blk_lt LB
      obtain ⟨u0, u1⟩ := blk_2 FB
      obtain ⟨q0, q1, qf0, qf1⟩ := blkF LB
      go_wp2_with fail
      replace LB := setF2 LB (u0 := .int .i64 f2.1) (u1 := .int .i64 f2.2)
      replace RB := setO2 RB (b := w.heap.size + 2) (i := 0) (j := 1) (v := .int .i64 f2.1) (u := .int .i64 f2.2) (by omega)
      replace TH := setO2 TH (b := w.heap.size + 2) (i := 0) (j := 1) (v := .int .i64 f2.1) (u := .int .i64 f2.2) (by omega)
      replace H := bw_set (bw_set H (p := ⟨w.heap.size + 2, 0, none⟩) (by dsimp only; omega) (.int .i64 f2.1)) (p := ⟨w.heap.size + 2, 1, none⟩) (by dsimp only; omega) (.int .i64 f2.2)
      clear q0 q1 qf0 qf1 e2
      generalize ((w2.setCell ⟨w.heap.size + 2, 0, none⟩ (.int .i64 f2.1)).setCell ⟨w.heap.size + 2, 1, none⟩ (.int .i64 f2.2)) = V2 at LB RB TH H ⊢
      clear u0 u1 FB zf zl zl2 zt
      rw [rounds_succ]
      obtain ⟨t0, t1, t2, t3, t4, t5⟩ := blk_6 TH
      obtain ⟨l0, l1⟩ := blk_2 LB
      have zl := blk_lt LB
      have zt := blk_lt TH
      have hs3 := h0.below H
      by_cases c3 : f3.1 * f2.2 < f2.1 * f3.2
      · have m3 : mn f2 f3 = f3 := if_pos c3
        have e3 := cmpI_lt _ _ c3
        clear c3
        go_wp2_with fail
        refine (fracCmp_both f3.1 f3.2 f2.1 f2.2 ad _ (hs3.below (bw_alloc (bw_refl _) _)) o3 o2).mono ?_
        rw [e3]
        rintro e w3 ⟨rfl, K⟩
        have FB := keep K (heap_new _ _)
        replace LB := keep K ((heap_old _ _ (blk_lt LB)).trans LB)
        replace RB := keep K ((heap_old _ _ (blk_lt RB)).trans RB)
        replace TH := keep K ((heap_old _ _ (blk_lt TH)).trans TH)
        replace H := bw_trans (bw_alloc H _) K
        clear t0 t1 t2 t3 t4 t5 l0 l1 K hs3
        have zf := blk_lt FB
        have zl3 := blk_lt LB
        obtain ⟨u0, u1⟩ := blk_2 FB
        obtain ⟨q0, q1, qf0, qf1⟩ := blkF LB
        go_wp2_with fail
        replace LB := setF2 LB (u0 := .int .i64 f3.1) (u1 := .int .i64 f3.2)
        replace RB := setO2 RB (b := w.heap.size + 2) (i := 0) (j := 1) (v := .int .i64 f3.1) (u := .int .i64 f3.2) (by omega)
        replace TH := setO2 TH (b := w.heap.size + 2) (i := 0) (j := 1) (v := .int .i64 f3.1) (u := .int .i64 f3.2) (by omega)
        replace H := bw_set (bw_set H (p := ⟨w.heap.size + 2, 0, none⟩) (by dsimp only; omega) (.int .i64 f3.1)) (p := ⟨w.heap.size + 2, 1, none⟩) (by dsimp only; omega) (.int .i64 f3.2)
        clear q0 q1 qf0 qf1 e3
        generalize ((w3.setCell ⟨w.heap.size + 2, 0, none⟩ (.int .i64 f3.1)).setCell ⟨w.heap.size + 2, 1, none⟩ (.int .i64 f3.2)) = V3 at LB RB TH H ⊢
        clear u0 u1 FB zf zl zl3 zt
        rw [rounds_succ]
        obtain ⟨l0, l1⟩ := blk_2 LB
        have zl := blk_lt LB
        have zr := blk_lt RB
        obtain ⟨q0, q1, qf0, qf1⟩ := blkF RB
        have R2 := setF2 RB (u0 := .int .i64 f3.1) (u1 := .int .i64 f3.2)
        obtain ⟨r0, r1⟩ := blk_2 R2
        have HB : Hid _ := H
        have e1 : Hid (mnA f0 f1 f2 f3 = f3) := by change _ = _; unfold mnA; rw [m1, m2, m3]
        clear R2 RB LB TH H m1 m2 m3
        go_wp2_with fail
        exact bodyPost_ret (v := .agg #[.int .i64 f3.1, .int .i64 f3.2]) (by simp [results, Tryz.results68, go_sem, r0, r1]) rfl ⟨by rw [e1.out], by repeat (first | with_reducible exact HB.out | with_reducible refine bw_set ?_ (by dsimp only; omega) _)⟩
      · have m3 : mn f2 f3 = f2 := if_neg c3
        have g3 := cmpI_ge _ _ c3
        generalize hx3 : cmpI (f3.1 * f2.2) (f2.1 * f3.2) = x3 at g3
        have HX3 : Hid (cmpI (f3.1 * f2.2) (f2.1 * f3.2) = x3) := hx3
        have p3 : 0 ≤ x3 := by omega
        clear hx3 g3
        clear c3
        go_wp2_with fail
        refine (fracCmp_both f3.1 f3.2 f2.1 f2.2 ad _ (hs3.below (bw_alloc (bw_refl _) _)) o3 o2).mono ?_
        rw [HX3.out]
        rintro e w3 ⟨rfl, K⟩
        have FB := keep K (heap_new _ _)
        replace LB := keep K ((heap_old _ _ (blk_lt LB)).trans LB)
        replace RB := keep K ((heap_old _ _ (blk_lt RB)).trans RB)
        replace TH := keep K ((heap_old _ _ (blk_lt TH)).trans TH)
        replace H := bw_trans (bw_alloc H _) K
        clear t0 t1 t2 t3 t4 t5 l0 l1 K hs3
        have zf := blk_lt FB
        have zl3 := blk_lt LB
        obtain ⟨u0, u1⟩ := blk_2 FB
        go_wp2_with fail
        clear u0 u1 FB zf zl zl3 zt
        rw [rounds_succ]
        obtain ⟨l0, l1⟩ := blk_2 LB
        have zl := blk_lt LB
        have zr := blk_lt RB
        obtain ⟨q0, q1, qf0, qf1⟩ := blkF RB
        have R2 := setF2 RB (u0 := .int .i64 f2.1) (u1 := .int .i64 f2.2)
        obtain ⟨r0, r1⟩ := blk_2 R2
        have HB : Hid _ := H
        have e1 : Hid (mnA f0 f1 f2 f3 = f2) := by change _ = _; unfold mnA; rw [m1, m2, m3]
        clear R2 RB LB TH H m1 m2 m3
        go_wp2_with fail
        exact bodyPost_ret (v := .agg #[.int .i64 f2.1, .int .i64 f2.2]) (by simp [results, Tryz.results68, go_sem, r0, r1]) rfl ⟨by rw [e1.out], by repeat (first | with_reducible exact HB.out | with_reducible refine bw_set ?_ (by dsimp only; omega) _)⟩
    · have m2 : mn f0 f2 = f0 := if_neg c2
      have g2 := cmpI_ge _ _ c2
      generalize hx2 : cmpI (f2.1 * f0.2) (f0.1 * f2.2) = x2 at g2
      have HX2 : Hid (cmpI (f2.1 * f0.2) (f0.1 * f2.2) = x2) := hx2
      have p2 : 0 ≤ x2 := by omega
      clear hx2 g2
      clear c2
      go_wp2_with fail
      refine (fracCmp_both f2.1 f2.2 f0.1 f0.2 ad _ (hs2.below (bw_alloc (bw_refl _) _)) o2 o0).mono ?_
      rw [HX2.out]
      rintro e w2 ⟨rfl, K⟩
      have FB := keep K (heap_new _ _)
      replace LB := keep K ((heap_old _ _ (blk_lt LB)).trans LB)
      replace RB := keep K ((heap_old _ _ (blk_lt RB)).trans RB)
      replace TH := keep K ((heap_old _ _ (blk_lt TH)).trans TH)
      replace H := bw_trans (bw_alloc H _) K
      clear t0 t1 t2 t3 t4 t5 l0 l1 K hs2
      have zf := blk_lt FB
      have zl2 := blk_lt LB
      obtain ⟨u0, u1⟩ := blk_2 FB
      go_wp2_with fail
      clear u0 u1 FB zf zl zl2 zt
      rw [rounds_succ]
      obtain ⟨t0, t1, t2, t3, t4, t5⟩ := blk_6 TH
      obtain ⟨l0, l1⟩ := blk_2 LB
      have zl := blk_lt LB
      have zt := blk_lt TH
      have hs3 := h0.below H
      by_cases c3 : f3.1 * f0.2 < f0.1 * f3.2
      · have m3 : mn f0 f3 = f3 := if_pos c3
        have e3 := cmpI_lt _ _ c3
        clear c3
        go_wp2_with fail
        refine (fracCmp_both f3.1 f3.2 f0.1 f0.2 ad _ (hs3.below (bw_alloc (bw_refl _) _)) o3 o0).mono ?_
        rw [e3]
        rintro e w3 ⟨rfl, K⟩
        have FB := keep K (heap_new _ _)
        replace LB := keep K ((heap_old _ _ (blk_lt LB)).trans LB)
        replace RB := keep K ((heap_old _ _ (blk_lt RB)).trans RB)
        replace TH := keep K ((heap_old _ _ (blk_lt TH)).trans TH)
        replace H := bw_trans (bw_alloc H _) K
        clear t0 t1 t2 t3 t4 t5 l0 l1 K hs3
        have zf := blk_lt FB
        have zl3 := blk_lt LB
        obtain ⟨u0, u1⟩ := blk_2 FB
        obtain ⟨q0, q1, qf0, qf1⟩ := blkF LB
        go_wp2_with fail
        replace LB := setF2 LB (u0 := .int .i64 f3.1) (u1 := .int .i64 f3.2)
        replace RB := setO2 RB (b := w.heap.size + 2) (i := 0) (j := 1) (v := .int .i64 f3.1) (u := .int .i64 f3.2) (by omega)
        replace TH := setO2 TH (b := w.heap.size + 2) (i := 0) (j := 1) (v := .int .i64 f3.1) (u := .int .i64 f3.2) (by omega)
        replace H := bw_set (bw_set H (p := ⟨w.heap.size + 2, 0, none⟩) (by dsimp only; omega) (.int .i64 f3.1)) (p := ⟨w.heap.size + 2, 1, none⟩) (by dsimp only; omega) (.int .i64 f3.2)
        clear q0 q1 qf0 qf1 e3
        generalize ((w3.setCell ⟨w.heap.size + 2, 0, none⟩ (.int .i64 f3.1)).setCell ⟨w.heap.size + 2, 1, none⟩ (.int .i64 f3.2)) = V3 at LB RB TH H ⊢
        clear u0 u1 FB zf zl zl3 zt
        rw [rounds_succ]
        obtain ⟨l0, l1⟩ := blk_2 LB
        have zl := blk_lt LB
        have zr := blk_lt RB
        obtain ⟨q0, q1, qf0, qf1⟩ := blkF RB
        have R2 := setF2 RB (u0 := .int .i64 f3.1) (u1 := .int .i64 f3.2)
        obtain ⟨r0, r1⟩ := blk_2 R2
        have HB : Hid _ := H
        have e1 : Hid (mnA f0 f1 f2 f3 = f3) := by change _ = _; unfold mnA; rw [m1, m2, m3]
        clear R2 RB LB TH H m1 m2 m3
        go_wp2_with fail
        exact bodyPost_ret (v := .agg #[.int .i64 f3.1, .int .i64 f3.2]) (by simp [results, Tryz.results68, go_sem, r0, r1]) rfl ⟨by rw [e1.out], by repeat (first | with_reducible exact HB.out | with_reducible refine bw_set ?_ (by dsimp only; omega) _)⟩
      · have m3 : mn f0 f3 = f0 := if_neg c3
        have g3 := cmpI_ge _ _ c3
        generalize hx3 : cmpI (f3.1 * f0.2) (f0.1 * f3.2) = x3 at g3
        have HX3 : Hid (cmpI (f3.1 * f0.2) (f0.1 * f3.2) = x3) := hx3
        have p3 : 0 ≤ x3 := by omega
        clear hx3 g3
        clear c3
        go_wp2_with fail
        refine (fracCmp_both f3.1 f3.2 f0.1 f0.2 ad _ (hs3.below (bw_alloc (bw_refl _) _)) o3 o0).mono ?_
        rw [HX3.out]
        rintro e w3 ⟨rfl, K⟩
        have FB := keep K (heap_new _ _)
        replace LB := keep K ((heap_old _ _ (blk_lt LB)).trans LB)
        replace RB := keep K ((heap_old _ _ (blk_lt RB)).trans RB)
        replace TH := keep K ((heap_old _ _ (blk_lt TH)).trans TH)
        replace H := bw_trans (bw_alloc H _) K
        clear t0 t1 t2 t3 t4 t5 l0 l1 K hs3
        have zf := blk_lt FB
        have zl3 := blk_lt LB
        obtain ⟨u0, u1⟩ := blk_2 FB
        go_wp2_with fail
        clear u0 u1 FB zf zl zl3 zt
        rw [rounds_succ]
        obtain ⟨l0, l1⟩ := blk_2 LB
        have zl := blk_lt LB
        have zr := blk_lt RB
        obtain ⟨q0, q1, qf0, qf1⟩ := blkF RB
        have R2 := setF2 RB (u0 := .int .i64 f0.1) (u1 := .int .i64 f0.2)
        obtain ⟨r0, r1⟩ := blk_2 R2
        have HB : Hid _ := H
        have e1 : Hid (mnA f0 f1 f2 f3 = f0) := by change _ = _; unfold mnA; rw [m1, m2, m3]
        clear R2 RB LB TH H m1 m2 m3
        go_wp2_with fail
        exact bodyPost_ret (v := .agg #[.int .i64 f0.1, .int .i64 f0.2]) (by simp [results, Tryz.results68, go_sem, r0, r1]) rfl ⟨by rw [e1.out], by repeat (first | with_reducible exact HB.out | with_reducible refine bw_set ?_ (by dsimp only; omega) _)⟩
end Go.Proofs.YtkncejcpeejkkaaGreatDoor
namespace Go.Proofs.YtkncejcpeejkkaaGreatDoor
open Go.RowKit Go.Sort

/-- How far apart, at whatever arguments. -/
def apartV (ax ay bx b_y cx cy ex ey : Int) : Int × Int := if sgB ax ay bx b_y && sgB cx cy ex ey then apart ax ay bx b_y cx cy ex ey else (0, 0)
theorem apartV_ok {ax ay bx b_y cx cy ex ey : Int} (gs : sgB ax ay bx b_y = true) (gt : sgB cx cy ex ey = true) : apartV ax ay bx b_y cx cy ex ey = apart ax ay bx b_y cx cy ex ey := by unfold apartV; rw [gs, gt]; rfl
set_option maxHeartbeats 1000000 in
theorem segApart_no (ax ay bx b_y cx cy ex ey : Int) (w : World) (h : sgB ax ay bx b_y = false ∨ (sgB ax ay bx b_y = true ∧ sgB cx cy ex ey = false)) :
    Calls Tryz.prog 71 #[.agg #[.int .i64 ax, .int .i64 ay, .int .i64 bx, .int .i64 b_y], .agg #[.int .i64 cx, .int .i64 cy, .int .i64 ex, .int .i64 ey]] w fun e w' => e = .returned (.agg #[.int .i64 0, .int .i64 0]) ∧ Below w.heap.size w w' := by
  rcases h with gs | ⟨gs, gt⟩
  · go_enter Tryz.func71, Tryz.ntmps71
    go_wp2_with fail
    refine (segOk_any _ _ _ _ _).mono ?_
    rw [gs]
    rintro e w1 ⟨rfl, J⟩
    obtain ⟨hc, hf⟩ := bcell J
    have HB : Hid (Below w.heap.size w w1) := bw_trans (by repeat (first | exact bw_refl _ | assumption | apply bw_drewN | apply bw_drew | apply bw_alloc | refine bw_set ?_ (by simp) _)) J
    have hz := J.size
    simp at hz
    have hz' : w.heap.size + 2 < w1.heap.size := by omega
    clear hz J
    go_wp2_with fail
    exact bodyPost_ret (v := .agg #[.int .i64 0, .int .i64 0]) (by simp [results, Tryz.results71, go_sem, hc]) rfl ⟨rfl, by repeat (first | with_reducible exact HB.out | with_reducible refine bw_set ?_ (by dsimp only; omega) _)⟩
  · go_enter Tryz.func71, Tryz.ntmps71
    go_wp2_with fail
    refine (segOk_any _ _ _ _ _).mono ?_
    rw [gs]
    rintro e w1 ⟨rfl, J⟩
    obtain ⟨hc, hf⟩ := bcell J
    go_wp2_with fail
    refine (segOk_any _ _ _ _ _).mono ?_
    rw [gt]
    rintro e w1 ⟨rfl, J2⟩
    replace J := bw_trans J J2
    clear hc hf J2
    obtain ⟨hc, hf⟩ := bcell J
    have HB : Hid (Below w.heap.size w w1) := bw_trans (by repeat (first | exact bw_refl _ | assumption | apply bw_drewN | apply bw_drew | apply bw_alloc | refine bw_set ?_ (by simp) _)) J
    have hz := J.size
    simp at hz
    have hz' : w.heap.size + 2 < w1.heap.size := by omega
    clear hz J
    go_wp2_with fail
    exact bodyPost_ret (v := .agg #[.int .i64 0, .int .i64 0]) (by simp [results, Tryz.results71, go_sem, hc]) rfl ⟨rfl, by repeat (first | with_reducible exact HB.out | with_reducible refine bw_set ?_ (by dsimp only; omega) _)⟩
set_option maxHeartbeats 1000000 in
theorem segApart_meet (ax ay bx b_y cx cy ex ey : Int) (ad : Addr) (w : World) (h0 : Sent ad w) (gs : sgB ax ay bx b_y = true) (gt : sgB cx cy ex ey = true) (hm : meetC ax ay bx b_y cx cy ex ey = true) :
    Calls Tryz.prog 71 #[.agg #[.int .i64 ax, .int .i64 ay, .int .i64 bx, .int .i64 b_y], .agg #[.int .i64 cx, .int .i64 cy, .int .i64 ex, .int .i64 ey]] w fun e w' => e = .returned (.agg #[.int .i64 0, .int .i64 1]) ∧ Below w.heap.size w w' := by
  have b0 : Below w.heap.size w (((w.alloc (.cells #[.int .i64 ax, .int .i64 ay, .int .i64 bx, .int .i64 b_y] 75)).alloc (.cells #[.int .i64 cx, .int .i64 cy, .int .i64 ex, .int .i64 ey] 75)).alloc (.cells #[.int .i64 0, .int .i64 0] 61)) := (by repeat (first | exact bw_refl _ | assumption | apply bw_drewN | apply bw_drew | apply bw_alloc | refine bw_set ?_ (by simp) _))
  go_enter Tryz.func71, Tryz.ntmps71
  go_wp2_with fail
  refine (segOk_any _ _ _ _ _).mono ?_
  rw [gs]
  rintro e w1 ⟨rfl, J⟩
  obtain ⟨hc, hf⟩ := bcell J
  go_wp2_with fail
  refine (segOk_any _ _ _ _ _).mono ?_
  rw [gt]
  rintro e w1 ⟨rfl, J2⟩
  replace J := bw_trans J J2
  clear hc hf J2
  obtain ⟨hc, hf⟩ := bcell J
  go_wp2_with fail
  refine (meet_ok _ _ _ _ _ _ _ _ _ gs gt).mono ?_
  rw [hm]
  rintro e w1 ⟨rfl, J2⟩
  replace J := bw_trans J J2
  clear hc hf J2
  obtain ⟨hc, hf⟩ := bcell J
  go_wp2_with fail
  refine (grid_one 0 (by decide) (by decide) ad _ (h0.below (bw_trans b0 J))).mono ?_
  rintro e w1 ⟨rfl, J2⟩
  replace J := bw_trans J J2
  clear hc hf J2
  obtain ⟨hc, hf⟩ := bcell J
  have HB : Hid (Below w.heap.size w w1) := bw_trans (by repeat (first | exact bw_refl _ | assumption | apply bw_drewN | apply bw_drew | apply bw_alloc | refine bw_set ?_ (by simp) _)) J
  have hz := J.size
  simp at hz
  have hz' : w.heap.size + 2 < w1.heap.size := by omega
  clear hz J
  go_wp2_with fail
  exact bodyPost_ret (v := .agg #[.int .i64 0, .int .i64 1]) (by simp [results, Tryz.results71, go_sem, hc]) rfl ⟨rfl, by repeat (first | with_reducible exact HB.out | with_reducible refine bw_set ?_ (by dsimp only; omega) _)⟩
set_option maxHeartbeats 4000000 in
theorem segApart_far (ax ay bx b_y cx cy ex ey : Int) (ad : Addr) (w : World) (h0 : Sent ad w) (gs : sgB ax ay bx b_y = true) (gt : sgB cx cy ex ey = true) (hm : meetC ax ay bx b_y cx cy ex ey = false) :
    Calls Tryz.prog 71 #[.agg #[.int .i64 ax, .int .i64 ay, .int .i64 bx, .int .i64 b_y], .agg #[.int .i64 cx, .int .i64 cy, .int .i64 ex, .int .i64 ey]] w fun e w' => e = .returned (.agg #[.int .i64 (mnA (far ax ay bx b_y cx cy) (far ax ay bx b_y ex ey) (far cx cy ex ey ax ay) (far cx cy ex ey bx b_y)).1, .int .i64 (mnA (far ax ay bx b_y cx cy) (far ax ay bx b_y ex ey) (far cx cy ex ey ax ay) (far cx cy ex ey bx b_y)).2]) ∧ Below w.heap.size w w' := by
  obtain ⟨pa, pb, _⟩ := sg_parts gs
  obtain ⟨pc, pd, _⟩ := sg_parts gt
  obtain ⟨o1, o2, o3, o4⟩ := four_ok gs gt
  obtain ⟨W, hW, BW, SB, TB, RB⟩ := boxes3 w (.cells #[.int .i64 ax, .int .i64 ay, .int .i64 bx, .int .i64 b_y] 75) (.cells #[.int .i64 cx, .int .i64 cy, .int .i64 ex, .int .i64 ey] 75) (.cells #[.int .i64 0, .int .i64 0] 61)
  have FA0 : Hid (∀ w, Sent ad w → Calls Tryz.prog 85 #[.agg #[.int .i64 ax, .int .i64 ay, .int .i64 bx, .int .i64 b_y], .agg #[.int .i64 cx, .int .i64 cy]] w fun e w' => e = .returned (.agg #[.int .i64 (far ax ay bx b_y cx cy).1, .int .i64 (far ax ay bx b_y cx cy).2]) ∧ Below w.heap.size w w') := fun w hs => segFar_ok ax ay bx b_y cx cy ad w hs gs pc
  have FA1 : Hid (∀ w, Sent ad w → Calls Tryz.prog 85 #[.agg #[.int .i64 ax, .int .i64 ay, .int .i64 bx, .int .i64 b_y], .agg #[.int .i64 ex, .int .i64 ey]] w fun e w' => e = .returned (.agg #[.int .i64 (far ax ay bx b_y ex ey).1, .int .i64 (far ax ay bx b_y ex ey).2]) ∧ Below w.heap.size w w') := fun w hs => segFar_ok ax ay bx b_y ex ey ad w hs gs pd
  have FA2 : Hid (∀ w, Sent ad w → Calls Tryz.prog 85 #[.agg #[.int .i64 cx, .int .i64 cy, .int .i64 ex, .int .i64 ey], .agg #[.int .i64 ax, .int .i64 ay]] w fun e w' => e = .returned (.agg #[.int .i64 (far cx cy ex ey ax ay).1, .int .i64 (far cx cy ex ey ax ay).2]) ∧ Below w.heap.size w w') := fun w hs => segFar_ok cx cy ex ey ax ay ad w hs gt pa
  have FA3 : Hid (∀ w, Sent ad w → Calls Tryz.prog 85 #[.agg #[.int .i64 cx, .int .i64 cy, .int .i64 ex, .int .i64 ey], .agg #[.int .i64 bx, .int .i64 b_y]] w fun e w' => e = .returned (.agg #[.int .i64 (far cx cy ex ey bx b_y).1, .int .i64 (far cx cy ex ey bx b_y).2]) ∧ Below w.heap.size w w') := fun w hs => segFar_ok cx cy ex ey bx b_y ad w hs gt pb
  go_enter Tryz.func71, Tryz.ntmps71
  go_wp2_with fail
  refine (segOk_any _ _ _ _ _).mono ?_
  rw [gs]
  rintro e w1 ⟨rfl, J⟩
  obtain ⟨hc, hf⟩ := bcell J
  go_wp2_with fail
  refine (segOk_any _ _ _ _ _).mono ?_
  rw [gt]
  rintro e w1 ⟨rfl, J2⟩
  replace J := bw_trans J J2
  clear hc hf J2
  obtain ⟨hc, hf⟩ := bcell J
  go_wp2_with fail
  refine (meet_ok _ _ _ _ _ _ _ _ _ gs gt).mono ?_
  rw [hm]
  rintro e w1 ⟨rfl, J2⟩
  replace J := bw_trans J J2
  clear hc hf J2
  obtain ⟨hc, hf⟩ := bcell J
  go_upto_region 5 with fail
  rw [← hW] at J
  replace SB := keep J SB
  replace TB := keep J TB
  replace RB := keep J RB
  have zr := blk_lt RB
  have H := (bw_trans BW J).drew
  have hS0 : (fun w' => w'.cell? ⟨w.heap.size, 0, none⟩ = some (.int .i64 ax) ∧ w'.cell? ⟨w.heap.size, 1, none⟩ = some (.int .i64 ay) ∧ w'.cell? ⟨w.heap.size, 2, none⟩ = some (.int .i64 bx) ∧ w'.cell? ⟨w.heap.size, 3, none⟩ = some (.int .i64 b_y) ∧ w'.cell? ⟨w.heap.size + 1, 0, none⟩ = some (.int .i64 cx) ∧ w'.cell? ⟨w.heap.size + 1, 1, none⟩ = some (.int .i64 cy) ∧ w'.cell? ⟨w.heap.size + 1, 2, none⟩ = some (.int .i64 ex) ∧ w'.cell? ⟨w.heap.size + 1, 3, none⟩ = some (.int .i64 ey)) w1 := by
    obtain ⟨s0, s1, s2, s3⟩ := blk_4 SB
    obtain ⟨t0, t1, t2, t3⟩ := blk_4 TB
    exact ⟨s0, s1, s2, s3, t0, t1, t2, t3⟩
  clear hW hc hf J SB TB BW
  replace RB : w1.drew.heap[w.heap.size + 2]? = _ := RB
  have HS : Sent ad w1.drew := h0.below H
  clear h0 gs gt hm pa pb pc pd
  go_region_held3 (fun w' => w'.cell? ⟨w.heap.size, 0, none⟩ = some (.int .i64 ax) ∧ w'.cell? ⟨w.heap.size, 1, none⟩ = some (.int .i64 ay) ∧ w'.cell? ⟨w.heap.size, 2, none⟩ = some (.int .i64 bx) ∧ w'.cell? ⟨w.heap.size, 3, none⟩ = some (.int .i64 b_y) ∧ w'.cell? ⟨w.heap.size + 1, 0, none⟩ = some (.int .i64 cx) ∧ w'.cell? ⟨w.heap.size + 1, 1, none⟩ = some (.int .i64 cy) ∧ w'.cell? ⟨w.heap.size + 1, 2, none⟩ = some (.int .i64 ex) ∧ w'.cell? ⟨w.heap.size + 1, 3, none⟩ = some (.int .i64 ey)) (first | with_reducible exact cB8 K (by assumption) | with_reducible exact cA8 (by assumption) | exact hS0 | exact cS8 (by assumption) (by dsimp only; omega) (by dsimp only; omega) (by dsimp only; omega) (by dsimp only; omega) (by dsimp only; omega) (by dsimp only; omega) (by dsimp only; omega) (by dsimp only; omega)) (first | (go_at_call 85; refine (FA0.out _ HS).mono ?_; clear FA0; rintro e v0 ⟨rfl, K⟩; replace HS := HS.below K; replace H := bw_trans H K; replace RB := keep K RB) | (go_at_call 85; refine (FA1.out _ HS).mono ?_; clear FA1; rintro e v1 ⟨rfl, K⟩; replace HS := HS.below K; replace H := bw_trans H K; replace RB := keep K RB) | (go_at_call 85; refine (FA2.out _ HS).mono ?_; clear FA2; rintro e v2 ⟨rfl, K⟩; replace HS := HS.below K; replace H := bw_trans H K; replace RB := keep K RB) | (go_at_call 85; refine (FA3.out _ HS).mono ?_; clear FA3; rintro e v3 ⟨rfl, K⟩; replace HS := HS.below K; replace H := bw_trans H K; replace RB := keep K RB) | (go_at_call 68; refine (least_ok (far ax ay bx b_y cx cy) (far ax ay bx b_y ex ey) (far cx cy ex ey ax ay) (far cx cy ex ey bx b_y) _ ad _ ?_ o1 o2 o3 o4 ?_).mono ?_; exact HS.below (bw_alloc (bw_refl _) _); exact heap_new _ _; rintro e v4 ⟨rfl, K⟩; replace RB := keep K ((heap_old _ _ (blk_lt RB)).trans RB); replace H := bw_trans (bw_alloc H _) K; obtain ⟨q0, q1, qf0, qf1⟩ := blkF RB))
  have HB : Hid _ := H
  have zz := blk_lt RB
  have R2 := setF2 RB (u0 := .int .i64 (mnA (far ax ay bx b_y cx cy) (far ax ay bx b_y ex ey) (far cx cy ex ey ax ay) (far cx cy ex ey bx b_y)).1) (u1 := .int .i64 (mnA (far ax ay bx b_y cx cy) (far ax ay bx b_y ex ey) (far cx cy ex ey ax ay) (far cx cy ex ey bx b_y)).2)
  obtain ⟨r0, r1⟩ := blk_2 R2
  clear H RB R2
  go_wp2_with fail
  exact bodyPost_ret (v := .agg #[.int .i64 (mnA (far ax ay bx b_y cx cy) (far ax ay bx b_y ex ey) (far cx cy ex ey ax ay) (far cx cy ex ey bx b_y)).1, .int .i64 (mnA (far ax ay bx b_y cx cy) (far ax ay bx b_y ex ey) (far cx cy ex ey ax ay) (far cx cy ex ey bx b_y)).2]) (by simp [results, Tryz.results71, go_sem, r0, r1]) rfl ⟨rfl, by repeat (first | with_reducible exact HB.out | with_reducible refine bw_set ?_ (by dsimp only; omega) _)⟩
theorem segApart_any (ax ay bx b_y cx cy ex ey : Int) (ad : Addr) (w : World) (h0 : Sent ad w) :
    Calls Tryz.prog 71 #[.agg #[.int .i64 ax, .int .i64 ay, .int .i64 bx, .int .i64 b_y], .agg #[.int .i64 cx, .int .i64 cy, .int .i64 ex, .int .i64 ey]] w fun e w' => e = .returned (.agg #[.int .i64 (apartV ax ay bx b_y cx cy ex ey).1, .int .i64 (apartV ax ay bx b_y cx cy ex ey).2]) ∧ Below w.heap.size w w' := by
  cases gs : sgB ax ay bx b_y
  · have e : apartV ax ay bx b_y cx cy ex ey = (0, 0) := by unfold apartV; rw [gs]; rfl
    rw [e]; exact segApart_no _ _ _ _ _ _ _ _ w (.inl gs)
  · cases gt : sgB cx cy ex ey
    · have e : apartV ax ay bx b_y cx cy ex ey = (0, 0) := by unfold apartV; rw [gs, gt]; rfl
      rw [e]; exact segApart_no _ _ _ _ _ _ _ _ w (.inr ⟨gs, gt⟩)
    · rw [apartV_ok gs gt]
      unfold apart
      cases hm : meetC ax ay bx b_y cx cy ex ey
      · exact segApart_far _ _ _ _ _ _ _ _ ad w h0 gs gt hm
      · exact segApart_meet _ _ _ _ _ _ _ _ ad w h0 gs gt hm
theorem segApart_ok (ax ay bx b_y cx cy ex ey : Int) (ad : Addr) (w : World) (h0 : Sent ad w) (gs : sgB ax ay bx b_y = true) (gt : sgB cx cy ex ey = true) :
    Calls Tryz.prog 71 #[.agg #[.int .i64 ax, .int .i64 ay, .int .i64 bx, .int .i64 b_y], .agg #[.int .i64 cx, .int .i64 cy, .int .i64 ex, .int .i64 ey]] w fun e w' => e = .returned (.agg #[.int .i64 (apart ax ay bx b_y cx cy ex ey).1, .int .i64 (apart ax ay bx b_y cx cy ex ey).2]) ∧ Below w.heap.size w w' := by
  rw [← apartV_ok gs gt]; exact segApart_any _ _ _ _ _ _ _ _ ad w h0
end Go.Proofs.YtkncejcpeejkkaaGreatDoor
namespace Go.Proofs.YtkncejcpeejkkaaGreatDoor
open Go.RowKit Go.Shelf Go.Sort
attribute [local go_sem] Oper.semAt_some

theorem Tryz.infoFrac : (Tryz.prog.info? 61).map (fun i => (i.zero, i.size, i.bytes)) = some (some (.agg #[.int .i64 0, .int .i64 0]), 2, 16) := by kernel_rfl
/-- How far a point is from a segment. -/
def farS (p : P2) (s : P2 × P2) : Int × Int := farV s.1.1 s.1.2 s.2.1 s.2.2 p.1 p.2
def frCells (fs : List (Int × Int)) : List Value := fs.flatMap fun f => [.int .i64 f.1, .int .i64 f.2]
theorem frCells_snoc (fs : List (Int × Int)) (f : Int × Int) : frCells (fs ++ [f]) = frCells fs ++ [.int .i64 f.1, .int .i64 f.2] := by simp [frCells]
set_option maxRecDepth 100000 in
set_option maxHeartbeats 4000000 in
theorem fars_in (n : Nat) (hn : 12 ≤ n) (b : Nat) (rs : List RingT) (p : P2) (ad : Addr) (w : World) (h0 : Sent ad w) (hR : RingN w.heap.size w (some ⟨b, 0, none⟩) rs) (hes : (edgR rs).length ≤ 1000) :
    CallsIn Fence.wide n Tryz.prog 67 #[.pointer (some ⟨b, 0, none⟩), .agg #[.int .i64 p.1, .int .i64 p.2]] w fun e W' => ∃ v, e = .returned v ∧ W'.ownsRow w.heap.size 61 2 v (edgR rs).length (frCells ((edgR rs).map (farS p))) ∧ Below w.heap.size w W' := by
  obtain ⟨i0, hi0, hz0, hz1, hz2⟩ := info_parts Tryz.infoFrac
  have h1 : 1 ≤ n := by omega
  have hmx : Tryz.prog.follows .mixedOrders = true := by kernel_rfl
  refine callsIn_of_wp_marks Tryz.func67 rfl trivial ?_ rfl
  simp only [Tryz.ntmps67, List.size_toArray, List.length_cons, List.length_nil, Nat.reduceAdd, Nat.reduceSub, Array.replicate_succ, Array.replicate_zero, List.push_toArray, List.append_toArray, List.nil_append, List.cons_append]
  gi_wp2_with (refine ⟨trivial, ?_⟩; gi_at_call 70; refine (ringEdges_in (n - 1) _ _).mono ?_; rintro e w' ⟨rfl, rfl⟩)
  have Q0 := ((Lies.new' w w.heap.size rfl #[.int .i64 p.1, .int .i64 p.2] 43).alloc (.cells #[.slice none 0 0] 108)).alloc (.cells #[.pointer (some ⟨b, 0, none⟩)] 95)
  have M := (Lies.new' (w.alloc (.cells #[.int .i64 p.1, .int .i64 p.2] 43)) (w.heap.size + 1) (by simp) #[.slice none 0 0] 108).alloc (.cells #[.pointer (some ⟨b, 0, none⟩)] 95)
  have L1 := Lies.new' ((w.alloc (.cells #[.int .i64 p.1, .int .i64 p.2] 43)).alloc (.cells #[.slice none 0 0] 108)) (w.heap.size + 1 + 1) (by simp) #[.pointer (some ⟨b, 0, none⟩)] 95
  have hB0 : Below w.heap.size w (((w.alloc (.cells #[.int .i64 p.1, .int .i64 p.2] 43)).alloc (.cells #[.slice none 0 0] 108)).alloc (.cells #[.pointer (some ⟨b, 0, none⟩)] 95)) := (by repeat (first | exact bw_refl _ | assumption | apply bw_drewN | apply bw_drew | apply bw_alloc | refine bw_set ?_ (by simp) _))
  have hsz : (((w.alloc (.cells #[.int .i64 p.1, .int .i64 p.2] 43)).alloc (.cells #[.slice none 0 0] 108)).alloc (.cells #[.pointer (some ⟨b, 0, none⟩)] 95)).heap.size = w.heap.size + 3 := by simp
  obtain ⟨W0, hW0⟩ : ∃ W0, ((w.alloc (.cells #[.int .i64 p.1, .int .i64 p.2] 43)).alloc (.cells #[.slice none 0 0] 108)).alloc (.cells #[.pointer (some ⟨b, 0, none⟩)] 95) = W0 := ⟨_, rfl⟩
  rw [hW0] at Q0 M L1 hB0 hsz ⊢
  clear hW0
  have hseq := ringE_seq (n - 1) (by omega) (w.heap.size + 1 + 1) w.heap.size (some ⟨b, 0, none⟩) rs W0 L1.c1 (by omega) (hR.keep hB0)
  refine wpIn_rangeO rfl h1 (gf := 86) (lb := #[.pointer (some ⟨w.heap.size + 1 + 1, 0, none⟩)]) rfl trivial (enters_of Tryz.func86 (by kernel_rfl) rfl)
    hseq KT_t (KT_b (by omega)) (Below.refl _ _) (fun _ => rfl)
    (fun pre W => ((∃ vv, Boxed W (w.heap.size + 1) 108 vv ∧ W.ownsRow w.heap.size 61 2 vv pre.length (frCells (pre.map (farS p))) ∧ True) ∧ Lies w.heap.size #[.int .i64 p.1, .int .i64 p.2] 43 W) ∧ Below w.heap.size w W)
    (OwnFrom.and (OwnFrom.and (Own.from (holdsRow_own w.heap.size (w.heap.size + 1) 108 61 2 (fun pre : List (P2 × P2) => pre.length) (fun pre => frCells (pre.map (farS p))) (fun _ _ => True)) _) (lies_from _ _ _ _)) (ownFrom_below (Nat.le_refl _) (by omega)))
    ⟨⟨⟨_, M, ⟨rfl, .inl ⟨rfl, rfl⟩⟩, trivial⟩, Q0⟩, hB0⟩
    (fun x a' W => ∃ Bx, w.heap.size + 1 < Bx ∧ Lies Bx #[.int .i64 x.1.1, .int .i64 x.1.2, .int .i64 x.2.1, .int .i64 x.2.2] 75 W ∧ a' = { tmps := #[.pointer (some ⟨b, 0, none⟩), .agg #[.int .i64 p.1, .int .i64 p.2], undef, .pointer (some ⟨w.heap.size, 0, none⟩), .slice none 0 0, .pointer (some ⟨w.heap.size + 1, 0, none⟩), .pointer (some ⟨Bx, 0, none⟩), .pointer (some ⟨b, 0, none⟩), .pointer (some ⟨b, 0, none⟩), .pointer (some ⟨b, 0, none⟩), .func (.func 86) #[] #[.pointer (some ⟨w.heap.size + 1 + 1, 0, none⟩)], .agg #[.int .i64 x.1.1, .int .i64 x.1.2, .int .i64 x.2.1, .int .i64 x.2.2], undef, undef, undef, undef, undef, undef, undef], defers := [] })
    (fun x a' _ X Y row hs hg hr => by obtain ⟨Bx, e1, e2, e3⟩ := hs; exact ⟨Bx, e1, lies_own (β := Unit) Bx _ _ () X Y row e2 hg (fun r e => (hr r e).2), e3⟩)
    ?assign ?body ?done
  case assign =>
    rintro l pre x W K ⟨⟨⟨vv, M0, hr0, _⟩, A0⟩, hB1⟩ hK
    unfold segE
    have zA := A0.lt
    have zM : w.heap.size + 1 < W.heap.size := (Array.getElem?_eq_some_iff.1 (show W.heap[w.heap.size + 1]? = _ from M0)).1
    have hB3 : Below W.heap.size W (W.alloc (.cells #[.int .i64 x.1.1, .int .i64 x.1.2, .int .i64 x.2.1, .int .i64 x.2.2] 75)) := (by repeat (first | exact bw_refl _ | assumption | apply bw_drewN | apply bw_drew | apply bw_alloc | refine bw_set ?_ (by simp) _))
    gi_wp2
    exact hK _ _ ((KeepsOthers.alloc _ _).from _) (KT.of_below hB3 hB1.size) ⟨⟨⟨vv, M0.alloc _, hr0.alloc _, trivial⟩, A0.alloc _⟩, hB1.alloc hB1.size _⟩ ⟨W.heap.size, zM, Lies.new W _ _, rfl⟩
  case body =>
    rintro l pre x a' W hl2 ⟨⟨⟨vv, M0, hr0, _⟩, A0⟩, hB1⟩ ⟨Bx, hBx, bX, rfl⟩ hlt
    have c0 := M0.cell
    obtain ⟨cx0, cx1, cx2, cx3⟩ := bX.c4
    obtain ⟨a0, a1⟩ := blk_2 A0
    have hzW := hB1.size
    have hX := segFar_any x.1.1 x.1.2 x.2.1 x.2.2 p.1 p.2 ad W.drew (h0.below hB1.drew)
    obtain ⟨f, hf⟩ : ∃ f, farS p x = f := ⟨_, rfl⟩
    rw [show farV x.1.1 x.1.2 x.2.1 x.2.2 p.1 p.2 = f from hf] at hX
    have Hf : Hid (farS p x = f) := hf
    clear hf
    have hmax : pre.length + 1 ≤ maxLen := by simp [maxLen]; omega
    have zA := A0.lt
    have zBx := bX.lt
    have zM : w.heap.size + 1 < W.heap.size := (Array.getElem?_eq_some_iff.1 (show W.heap[w.heap.size + 1]? = _ from M0)).1
    gi_wp2
    refine wpIn_round_held (S := (fun w' : World => (w'.cell? ⟨Bx, 0, none⟩ = some (.int .i64 x.1.1) ∧ w'.cell? ⟨Bx, 1, none⟩ = some (.int .i64 x.1.2) ∧ w'.cell? ⟨Bx, 2, none⟩ = some (.int .i64 x.2.1) ∧ w'.cell? ⟨Bx, 3, none⟩ = some (.int .i64 x.2.2)) ∧ w'.cell? ⟨w.heap.size, 0, none⟩ = some (.int .i64 p.1) ∧ w'.cell? ⟨w.heap.size, 1, none⟩ = some (.int .i64 p.2))) hmx (by kernel_rfl) (by rintro ⟨_, _, h⟩; exact h) ?_
    have hS0 : (fun w' : World => (w'.cell? ⟨Bx, 0, none⟩ = some (.int .i64 x.1.1) ∧ w'.cell? ⟨Bx, 1, none⟩ = some (.int .i64 x.1.2) ∧ w'.cell? ⟨Bx, 2, none⟩ = some (.int .i64 x.2.1) ∧ w'.cell? ⟨Bx, 3, none⟩ = some (.int .i64 x.2.2)) ∧ w'.cell? ⟨w.heap.size, 0, none⟩ = some (.int .i64 p.1) ∧ w'.cell? ⟨w.heap.size, 1, none⟩ = some (.int .i64 p.2)) W.drew := ⟨⟨cx0, cx1, cx2, cx3⟩, a0, a1⟩
    refine wpAnyH_take (i := 1) (v := .agg #[.int .i64 x.1.1, .int .i64 x.1.2, .int .i64 x.2.1, .int .i64 x.2.2]) rfl (by kernel_rfl) (by kernel_rfl) (by kernel_rfl) (fun _ _ _ h => h) (Or.inl ⟨by rfl, by rintro w' ⟨⟨s1, s2, s3, s4⟩, s5, s6⟩; go_simp⟩) hS0 ?_
    refine wpAnyH_take (i := 2) (v := .agg #[.int .i64 p.1, .int .i64 p.2]) rfl (by kernel_rfl) (by kernel_rfl) (by kernel_rfl) (fun _ _ _ h => h) (Or.inl ⟨by rfl, by rintro w' ⟨⟨s1, s2, s3, s4⟩, s5, s6⟩; go_simp⟩) hS0 ?_
    refine wpAnyH_all (rs := [0, 3]) (by kernel_rfl) (by simp) ?_
    intro i hi
    have hi' : i = 0 ∨ i = 3 := by simpa using hi
    clear hi
    rcases hi' with rfl | rfl
    · skip
      refine YieldsIf.wpOp (S := fun w' => w' = W.drew) (v := vv) rfl (Or.inl ⟨by rfl, by rintro w' rfl; go_simp⟩) rfl ⟨hS0, ?_⟩
      refine wpAnyH_all (rs := [3]) (by kernel_rfl) (by simp) ?_
      intro i hi
      obtain rfl : i = 3 := by simpa using hi
      refine wpOp_now rfl (by rfl) ?_
      go_simp
      refine hX.mono ?_
      rintro e w3 ⟨rfl, J3⟩
      have M3 : Boxed w3 (w.heap.size + 1) 108 vv := (J3.block (w.heap.size + 1) zM).trans M0
      have hr3 : w3.ownsRow w.heap.size 61 2 vv pre.length (frCells (pre.map (farS p))) := (hr0.kept (w' := W.drew) (row := none) ⟨rfl, rfl, rfl, Nat.le_refl _, fun _ _ _ => rfl⟩ (Classical.em _)).kept (w' := w3) (row := none) ⟨J3.os, J3.tape, J3.output, J3.size, fun j hj _ => J3.block j hj⟩ (Classical.em _)
      have A3 : Lies w.heap.size #[.int .i64 p.1, .int .i64 p.2] 43 w3 := (J3.block w.heap.size zA).trans A0
      have b3 : Lies Bx #[.int .i64 x.1.1, .int .i64 x.1.2, .int .i64 x.2.1, .int .i64 x.2.2] 75 w3 := (J3.block Bx zBx).trans bX
      have z3 : W.heap.size ≤ w3.heap.size := J3.size
      have hS3 : (fun w' : World => (w'.cell? ⟨Bx, 0, none⟩ = some (.int .i64 x.1.1) ∧ w'.cell? ⟨Bx, 1, none⟩ = some (.int .i64 x.1.2) ∧ w'.cell? ⟨Bx, 2, none⟩ = some (.int .i64 x.2.1) ∧ w'.cell? ⟨Bx, 3, none⟩ = some (.int .i64 x.2.2)) ∧ w'.cell? ⟨w.heap.size, 0, none⟩ = some (.int .i64 p.1) ∧ w'.cell? ⟨w.heap.size, 1, none⟩ = some (.int .i64 p.2)) w3 := ⟨b3.c4, blk_2 A3⟩
      have cm3 := M3.cell
      refine ⟨hS3, ?_⟩
      refine wpAnyH_all (rs := [4]) (by kernel_rfl) (by simp) ?_
      intro i hi
      obtain rfl : i = 4 := by simpa using hi
      have B34 : Below w3.heap.size w3 (w3.alloc (.cells #[.int .i64 f.1, .int .i64 f.2] 61)) := (by repeat (first | exact bw_refl _ | assumption | apply bw_drewN | apply bw_drew | apply bw_alloc | refine bw_set ?_ (by simp) _))
      have hS4 : (fun w' : World => (w'.cell? ⟨Bx, 0, none⟩ = some (.int .i64 x.1.1) ∧ w'.cell? ⟨Bx, 1, none⟩ = some (.int .i64 x.1.2) ∧ w'.cell? ⟨Bx, 2, none⟩ = some (.int .i64 x.2.1) ∧ w'.cell? ⟨Bx, 3, none⟩ = some (.int .i64 x.2.2)) ∧ w'.cell? ⟨w.heap.size, 0, none⟩ = some (.int .i64 p.1) ∧ w'.cell? ⟨w.heap.size, 1, none⟩ = some (.int .i64 p.2)) (w3.alloc (.cells #[.int .i64 f.1, .int .i64 f.2] 61)) := ⟨(b3.below B34).c4, blk_2 (A3.below B34)⟩
      refine wpOp_now rfl (by rfl) ?_
      go_simp
      refine wpAnyH_all (rs := [5]) (by kernel_rfl) (by simp) ?_
      intro i hi
      obtain rfl : i = 5 := by simpa using hi
      refine wpOp_now rfl (by rfl) ?_
      refine wp_append_lies _ _ _ _ (by rfl) w.heap.size 61 i0 _ 2 16 Tryz.underlying108 hi0 hz0 hz1 hz2 rfl (by omega) _ pre.length _ (by rfl) (hr3.alloc _) ⟨w3.heap.size, 0, none⟩ 1 1 [.int .i64 f.1, .int .i64 f.2] (by rfl) (by rfl) (World.news_of_block (cs := #[.int .i64 f.1, .int .i64 f.2]) (t := 61) (fr := (0, 0)) (heap_alloc_new w3 _)) (by simp [Value.oneCell']) (by omega) hmax (by omega) (by simp; omega) (w3.heap.size + 1) (by simp) ?_
      intro gg cg w5 hown5 hgr5 hat5 hlt5
      obtain ⟨hv1, hv2, hr2, hk2, hb2⟩ := M3.appended (by decide) hr3 (by omega) (by omega) hown5 hgr5
      have hne : ∀ (k : Nat) (cs : Array Value) (t : TypeId), t ≠ 61 → w3.heap[k]? = some (.cells cs t (0, 0)) → w5.heap[k]? = some (.cells cs t (0, 0)) := fun k cs t ht h => by
        refine (hgr5.block k (by have := (Array.getElem?_eq_some_iff.1 h).1; simp; omega) (fun e => ?_)).trans ((B34.block k (Array.getElem?_eq_some_iff.1 h).1).trans h)
        rcases hr3.2 with ⟨e1, _⟩ | ⟨g0, c0', cur0, e1, _, hg0, _⟩
        · subst e1; cases e
        · subst e1
          have e' : k = g0 := Option.some.inj e
          rw [e', hg0] at h; cases h; exact ht rfl
      have A5 : Lies w.heap.size #[.int .i64 p.1, .int .i64 p.2] 43 w5 := hne _ _ _ (by decide) A3
      have b5 : Lies Bx #[.int .i64 x.1.1, .int .i64 x.1.2, .int .i64 x.2.1, .int .i64 x.2.2] 75 w5 := hne _ _ _ (by decide) b3
      have hS5 : (fun w' : World => (w'.cell? ⟨Bx, 0, none⟩ = some (.int .i64 x.1.1) ∧ w'.cell? ⟨Bx, 1, none⟩ = some (.int .i64 x.1.2) ∧ w'.cell? ⟨Bx, 2, none⟩ = some (.int .i64 x.2.1) ∧ w'.cell? ⟨Bx, 3, none⟩ = some (.int .i64 x.2.2)) ∧ w'.cell? ⟨w.heap.size, 0, none⟩ = some (.int .i64 p.1) ∧ w'.cell? ⟨w.heap.size, 1, none⟩ = some (.int .i64 p.2)) w5 := ⟨b5.c4, blk_2 A5⟩
      refine ⟨hS5, ?_⟩
      simp only [Act.put, List.setIfInBounds_toArray]
      refine wpAnyH_all (rs := [6]) (by kernel_rfl) (by simp) ?_
      intro i hi
      obtain rfl : i = 6 := by simpa using hi
      have hc1 := hv1.cell
      have hf1 := hv1.frozen
      refine wpOp_now rfl (by rfl) ?_
      go_simp
      refine wpAnyH_done (by kernel_rfl) ?_ _
      have BWX : Below w.heap.size W (w5.setCell ⟨w.heap.size + 1, 0, none⟩ (.slice (some ⟨gg, 0, none⟩) (pre.length + 1) cg)) := ((Below.refl _ W).drew.trans (J3.mono hzW)).trans hb2
      refine ⟨(((KeepsOthers.drew _).trans (KeepsOthers.of_below J3)).trans hk2).from _, ⟨BWX, fun k cs t ht h => ?_⟩, ⟨⟨_, hv2, ?_, trivial⟩, ?_⟩, hB1.trans BWX⟩
      · have h3 : w3.heap[k]? = some (.cells cs t (0, 0)) := (J3.block k (Array.getElem?_eq_some_iff.1 h).1).trans h
        refine (Below.heap_setCell _ _ _ k (fun e => ?_)).trans (hne k cs t (by rcases ht with rfl | rfl <;> decide) h3)
        have e' : k = w.heap.size + 1 := e
        rw [e', show W.heap[w.heap.size + 1]? = _ from M0] at h
        rcases ht with rfl | rfl <;> simp at h
      · rw [List.map_append, List.map_cons, List.map_nil, Hf.out, frCells_snoc, List.length_append, List.length_singleton]; exact hr2
      · exact (Below.heap_setCell _ _ _ w.heap.size (fun e => by have e' : w.heap.size = w.heap.size + 1 := e; omega)).trans A5
    · skip
      refine wpOp_now rfl (by rfl) ?_
      go_simp
      refine hX.mono ?_
      rintro e w3 ⟨rfl, J3⟩
      have M3 : Boxed w3 (w.heap.size + 1) 108 vv := (J3.block (w.heap.size + 1) zM).trans M0
      have hr3 : w3.ownsRow w.heap.size 61 2 vv pre.length (frCells (pre.map (farS p))) := (hr0.kept (w' := W.drew) (row := none) ⟨rfl, rfl, rfl, Nat.le_refl _, fun _ _ _ => rfl⟩ (Classical.em _)).kept (w' := w3) (row := none) ⟨J3.os, J3.tape, J3.output, J3.size, fun j hj _ => J3.block j hj⟩ (Classical.em _)
      have A3 : Lies w.heap.size #[.int .i64 p.1, .int .i64 p.2] 43 w3 := (J3.block w.heap.size zA).trans A0
      have b3 : Lies Bx #[.int .i64 x.1.1, .int .i64 x.1.2, .int .i64 x.2.1, .int .i64 x.2.2] 75 w3 := (J3.block Bx zBx).trans bX
      have z3 : W.heap.size ≤ w3.heap.size := J3.size
      have hS3 : (fun w' : World => (w'.cell? ⟨Bx, 0, none⟩ = some (.int .i64 x.1.1) ∧ w'.cell? ⟨Bx, 1, none⟩ = some (.int .i64 x.1.2) ∧ w'.cell? ⟨Bx, 2, none⟩ = some (.int .i64 x.2.1) ∧ w'.cell? ⟨Bx, 3, none⟩ = some (.int .i64 x.2.2)) ∧ w'.cell? ⟨w.heap.size, 0, none⟩ = some (.int .i64 p.1) ∧ w'.cell? ⟨w.heap.size, 1, none⟩ = some (.int .i64 p.2)) w3 := ⟨b3.c4, blk_2 A3⟩
      have cm3 := M3.cell
      refine ⟨hS3, ?_⟩
      refine wpAnyH_all (rs := [0, 4]) (by kernel_rfl) (by simp) ?_
      intro i hi
      have hi' : i = 0 ∨ i = 4 := by simpa using hi
      clear hi
      rcases hi' with rfl | rfl
      · skip
        refine YieldsIf.wpOp (S := fun w' => w' = w3) (v := vv) rfl (Or.inl ⟨by rfl, by rintro w' rfl; go_simp⟩) rfl ⟨hS3, ?_⟩
        refine wpAnyH_all (rs := [4]) (by kernel_rfl) (by simp) ?_
        intro i hi
        obtain rfl : i = 4 := by simpa using hi
        have B34 : Below w3.heap.size w3 (w3.alloc (.cells #[.int .i64 f.1, .int .i64 f.2] 61)) := (by repeat (first | exact bw_refl _ | assumption | apply bw_drewN | apply bw_drew | apply bw_alloc | refine bw_set ?_ (by simp) _))
        have hS4 : (fun w' : World => (w'.cell? ⟨Bx, 0, none⟩ = some (.int .i64 x.1.1) ∧ w'.cell? ⟨Bx, 1, none⟩ = some (.int .i64 x.1.2) ∧ w'.cell? ⟨Bx, 2, none⟩ = some (.int .i64 x.2.1) ∧ w'.cell? ⟨Bx, 3, none⟩ = some (.int .i64 x.2.2)) ∧ w'.cell? ⟨w.heap.size, 0, none⟩ = some (.int .i64 p.1) ∧ w'.cell? ⟨w.heap.size, 1, none⟩ = some (.int .i64 p.2)) (w3.alloc (.cells #[.int .i64 f.1, .int .i64 f.2] 61)) := ⟨(b3.below B34).c4, blk_2 (A3.below B34)⟩
        refine wpOp_now rfl (by rfl) ?_
        go_simp
        refine wpAnyH_all (rs := [5]) (by kernel_rfl) (by simp) ?_
        intro i hi
        obtain rfl : i = 5 := by simpa using hi
        refine wpOp_now rfl (by rfl) ?_
        refine wp_append_lies _ _ _ _ (by rfl) w.heap.size 61 i0 _ 2 16 Tryz.underlying108 hi0 hz0 hz1 hz2 rfl (by omega) _ pre.length _ (by rfl) (hr3.alloc _) ⟨w3.heap.size, 0, none⟩ 1 1 [.int .i64 f.1, .int .i64 f.2] (by rfl) (by rfl) (World.news_of_block (cs := #[.int .i64 f.1, .int .i64 f.2]) (t := 61) (fr := (0, 0)) (heap_alloc_new w3 _)) (by simp [Value.oneCell']) (by omega) hmax (by omega) (by simp; omega) (w3.heap.size + 1) (by simp) ?_
        intro gg cg w5 hown5 hgr5 hat5 hlt5
        obtain ⟨hv1, hv2, hr2, hk2, hb2⟩ := M3.appended (by decide) hr3 (by omega) (by omega) hown5 hgr5
        have hne : ∀ (k : Nat) (cs : Array Value) (t : TypeId), t ≠ 61 → w3.heap[k]? = some (.cells cs t (0, 0)) → w5.heap[k]? = some (.cells cs t (0, 0)) := fun k cs t ht h => by
          refine (hgr5.block k (by have := (Array.getElem?_eq_some_iff.1 h).1; simp; omega) (fun e => ?_)).trans ((B34.block k (Array.getElem?_eq_some_iff.1 h).1).trans h)
          rcases hr3.2 with ⟨e1, _⟩ | ⟨g0, c0', cur0, e1, _, hg0, _⟩
          · subst e1; cases e
          · subst e1
            have e' : k = g0 := Option.some.inj e
            rw [e', hg0] at h; cases h; exact ht rfl
        have A5 : Lies w.heap.size #[.int .i64 p.1, .int .i64 p.2] 43 w5 := hne _ _ _ (by decide) A3
        have b5 : Lies Bx #[.int .i64 x.1.1, .int .i64 x.1.2, .int .i64 x.2.1, .int .i64 x.2.2] 75 w5 := hne _ _ _ (by decide) b3
        have hS5 : (fun w' : World => (w'.cell? ⟨Bx, 0, none⟩ = some (.int .i64 x.1.1) ∧ w'.cell? ⟨Bx, 1, none⟩ = some (.int .i64 x.1.2) ∧ w'.cell? ⟨Bx, 2, none⟩ = some (.int .i64 x.2.1) ∧ w'.cell? ⟨Bx, 3, none⟩ = some (.int .i64 x.2.2)) ∧ w'.cell? ⟨w.heap.size, 0, none⟩ = some (.int .i64 p.1) ∧ w'.cell? ⟨w.heap.size, 1, none⟩ = some (.int .i64 p.2)) w5 := ⟨b5.c4, blk_2 A5⟩
        refine ⟨hS5, ?_⟩
        simp only [Act.put, List.setIfInBounds_toArray]
        refine wpAnyH_all (rs := [6]) (by kernel_rfl) (by simp) ?_
        intro i hi
        obtain rfl : i = 6 := by simpa using hi
        have hc1 := hv1.cell
        have hf1 := hv1.frozen
        refine wpOp_now rfl (by rfl) ?_
        go_simp
        refine wpAnyH_done (by kernel_rfl) ?_ _
        have BWX : Below w.heap.size W (w5.setCell ⟨w.heap.size + 1, 0, none⟩ (.slice (some ⟨gg, 0, none⟩) (pre.length + 1) cg)) := ((Below.refl _ W).drew.trans (J3.mono hzW)).trans hb2
        refine ⟨(((KeepsOthers.drew _).trans (KeepsOthers.of_below J3)).trans hk2).from _, ⟨BWX, fun k cs t ht h => ?_⟩, ⟨⟨_, hv2, ?_, trivial⟩, ?_⟩, hB1.trans BWX⟩
        · have h3 : w3.heap[k]? = some (.cells cs t (0, 0)) := (J3.block k (Array.getElem?_eq_some_iff.1 h).1).trans h
          refine (Below.heap_setCell _ _ _ k (fun e => ?_)).trans (hne k cs t (by rcases ht with rfl | rfl <;> decide) h3)
          have e' : k = w.heap.size + 1 := e
          rw [e', show W.heap[w.heap.size + 1]? = _ from M0] at h
          rcases ht with rfl | rfl <;> simp at h
        · rw [List.map_append, List.map_cons, List.map_nil, Hf.out, frCells_snoc, List.length_append, List.length_singleton]; exact hr2
        · exact (Below.heap_setCell _ _ _ w.heap.size (fun e => by have e' : w.heap.size = w.heap.size + 1 := e; omega)).trans A5
      · skip
        have B34 : Below w3.heap.size w3 (w3.alloc (.cells #[.int .i64 f.1, .int .i64 f.2] 61)) := (by repeat (first | exact bw_refl _ | assumption | apply bw_drewN | apply bw_drew | apply bw_alloc | refine bw_set ?_ (by simp) _))
        have hS4 : (fun w' : World => (w'.cell? ⟨Bx, 0, none⟩ = some (.int .i64 x.1.1) ∧ w'.cell? ⟨Bx, 1, none⟩ = some (.int .i64 x.1.2) ∧ w'.cell? ⟨Bx, 2, none⟩ = some (.int .i64 x.2.1) ∧ w'.cell? ⟨Bx, 3, none⟩ = some (.int .i64 x.2.2)) ∧ w'.cell? ⟨w.heap.size, 0, none⟩ = some (.int .i64 p.1) ∧ w'.cell? ⟨w.heap.size, 1, none⟩ = some (.int .i64 p.2)) (w3.alloc (.cells #[.int .i64 f.1, .int .i64 f.2] 61)) := ⟨(b3.below B34).c4, blk_2 (A3.below B34)⟩
        refine wpOp_now rfl (by rfl) ?_
        go_simp
        have cm4 := (M3.alloc (.cells #[.int .i64 f.1, .int .i64 f.2] 61)).cell
        refine wpAnyH_all (rs := [0]) (by kernel_rfl) (by simp) ?_
        intro i hi
        obtain rfl : i = 0 := by simpa using hi
        refine YieldsIf.wpOp (S := fun w' => w' = w3.alloc (.cells #[.int .i64 f.1, .int .i64 f.2] 61)) (v := vv) rfl (Or.inl ⟨by rfl, by rintro w' rfl; go_simp⟩) rfl ⟨hS4, ?_⟩
        refine wpAnyH_all (rs := [5]) (by kernel_rfl) (by simp) ?_
        intro i hi
        obtain rfl : i = 5 := by simpa using hi
        refine wpOp_now rfl (by rfl) ?_
        refine wp_append_lies _ _ _ _ (by rfl) w.heap.size 61 i0 _ 2 16 Tryz.underlying108 hi0 hz0 hz1 hz2 rfl (by omega) _ pre.length _ (by rfl) (hr3.alloc _) ⟨w3.heap.size, 0, none⟩ 1 1 [.int .i64 f.1, .int .i64 f.2] (by rfl) (by rfl) (World.news_of_block (cs := #[.int .i64 f.1, .int .i64 f.2]) (t := 61) (fr := (0, 0)) (heap_alloc_new w3 _)) (by simp [Value.oneCell']) (by omega) hmax (by omega) (by simp; omega) (w3.heap.size + 1) (by simp) ?_
        intro gg cg w5 hown5 hgr5 hat5 hlt5
        obtain ⟨hv1, hv2, hr2, hk2, hb2⟩ := M3.appended (by decide) hr3 (by omega) (by omega) hown5 hgr5
        have hne : ∀ (k : Nat) (cs : Array Value) (t : TypeId), t ≠ 61 → w3.heap[k]? = some (.cells cs t (0, 0)) → w5.heap[k]? = some (.cells cs t (0, 0)) := fun k cs t ht h => by
          refine (hgr5.block k (by have := (Array.getElem?_eq_some_iff.1 h).1; simp; omega) (fun e => ?_)).trans ((B34.block k (Array.getElem?_eq_some_iff.1 h).1).trans h)
          rcases hr3.2 with ⟨e1, _⟩ | ⟨g0, c0', cur0, e1, _, hg0, _⟩
          · subst e1; cases e
          · subst e1
            have e' : k = g0 := Option.some.inj e
            rw [e', hg0] at h; cases h; exact ht rfl
        have A5 : Lies w.heap.size #[.int .i64 p.1, .int .i64 p.2] 43 w5 := hne _ _ _ (by decide) A3
        have b5 : Lies Bx #[.int .i64 x.1.1, .int .i64 x.1.2, .int .i64 x.2.1, .int .i64 x.2.2] 75 w5 := hne _ _ _ (by decide) b3
        have hS5 : (fun w' : World => (w'.cell? ⟨Bx, 0, none⟩ = some (.int .i64 x.1.1) ∧ w'.cell? ⟨Bx, 1, none⟩ = some (.int .i64 x.1.2) ∧ w'.cell? ⟨Bx, 2, none⟩ = some (.int .i64 x.2.1) ∧ w'.cell? ⟨Bx, 3, none⟩ = some (.int .i64 x.2.2)) ∧ w'.cell? ⟨w.heap.size, 0, none⟩ = some (.int .i64 p.1) ∧ w'.cell? ⟨w.heap.size, 1, none⟩ = some (.int .i64 p.2)) w5 := ⟨b5.c4, blk_2 A5⟩
        refine ⟨hS5, ?_⟩
        simp only [Act.put, List.setIfInBounds_toArray]
        refine wpAnyH_all (rs := [6]) (by kernel_rfl) (by simp) ?_
        intro i hi
        obtain rfl : i = 6 := by simpa using hi
        have hc1 := hv1.cell
        have hf1 := hv1.frozen
        refine wpOp_now rfl (by rfl) ?_
        go_simp
        refine wpAnyH_done (by kernel_rfl) ?_ _
        have BWX : Below w.heap.size W (w5.setCell ⟨w.heap.size + 1, 0, none⟩ (.slice (some ⟨gg, 0, none⟩) (pre.length + 1) cg)) := ((Below.refl _ W).drew.trans (J3.mono hzW)).trans hb2
        refine ⟨(((KeepsOthers.drew _).trans (KeepsOthers.of_below J3)).trans hk2).from _, ⟨BWX, fun k cs t ht h => ?_⟩, ⟨⟨_, hv2, ?_, trivial⟩, ?_⟩, hB1.trans BWX⟩
        · have h3 : w3.heap[k]? = some (.cells cs t (0, 0)) := (J3.block k (Array.getElem?_eq_some_iff.1 h).1).trans h
          refine (Below.heap_setCell _ _ _ k (fun e => ?_)).trans (hne k cs t (by rcases ht with rfl | rfl <;> decide) h3)
          have e' : k = w.heap.size + 1 := e
          rw [e', show W.heap[w.heap.size + 1]? = _ from M0] at h
          rcases ht with rfl | rfl <;> simp at h
        · rw [List.map_append, List.map_cons, List.map_nil, Hf.out, frCells_snoc, List.length_append, List.length_singleton]; exact hr2
        · exact (Below.heap_setCell _ _ _ w.heap.size (fun e => by have e' : w.heap.size = w.heap.size + 1 := e; omega)).trans A5
  case done =>
    rintro D W hD ⟨⟨⟨vv, M0, hr0, _⟩, A0⟩, hB1⟩ hK
    have cR := M0.cell
    gi_wp2
    refine ⟨by simp, .inl ⟨_, _, rfl, run_takeDeferred hK, ?_⟩⟩
    exact ⟨vv, by simp [results, Tryz.results67, go_sem], vv, rfl, ownsRow_putObj hr0 _ hK rfl, hB1.trans (belowK_b (w := w) (Nat.le_refl _) _ D _ _ (by omega) hK rfl rfl)⟩
end Go.Proofs.YtkncejcpeejkkaaGreatDoor
namespace Go.Proofs.YtkncejcpeejkkaaGreatDoor
open Go.RowKit Go.Sort

def frAt (fs : List (Int × Int)) (j : Nat) : Int × Int := fs[j]?.getD (0, 1)
theorem fold_take (fs : List (Int × Int)) (f0 : Int × Int) (k : Nat) (hk : k < fs.length) : (fs.take (k + 1)).foldl mn f0 = mn ((fs.take k).foldl mn f0) (frAt fs k) := by
  rw [List.take_add_one, List.foldl_append, List.getElem?_eq_getElem hk]; simp [frAt, hk]
theorem fold_ok (fs : List (Int × Int)) (f0 : Int × Int) (h0 : OkF f0) (hfs : ∀ f ∈ fs, OkF f) : OkF (fs.foldl mn f0) := by
  induction fs generalizing f0 with
  | nil => exact h0
  | cons f fs ih => exact ih _ (mn_ok h0 (hfs f (by simp))) (fun g hg => hfs g (by simp [hg]))
set_option maxRecDepth 100000 in
set_option maxHeartbeats 2000000 in
theorem leastRow_ok (f0 : Int × Int) (fs : List (Int × Int)) (b off len cap : Nat) (ad : Addr) (w : World) (h0 : Sent ad w) (o0 : OkF f0) (hfs : ∀ f ∈ fs, OkF f) (hl : Hid (fs.length = len)) (hlen : len ≤ 1000) (hb : b < w.heap.size)
    (hc : ∀ j, j < len → w.cell? ⟨b, off + j * 2, none⟩ = some (.int .i64 (frAt fs j).1) ∧ w.cell? ⟨b, off + j * 2 + 1, none⟩ = some (.int .i64 (frAt fs j).2)) :
    Calls Tryz.prog 68 #[.agg #[.int .i64 f0.1, .int .i64 f0.2], .slice (some ⟨b, off, none⟩) len cap] w fun e w' => e = .returned (.agg #[.int .i64 (fs.foldl mn f0).1, .int .i64 (fs.foldl mn f0).2]) ∧ Below w.heap.size w w' := by
  obtain ⟨W, hW, H, _, RB, LB⟩ := boxes3 w (.cells #[.int .i64 f0.1, .int .i64 f0.2] 61) (.cells #[.int .i64 0, .int .i64 0] 61) (.cells #[.int .i64 f0.1, .int .i64 f0.2] 61)
  have HT : Hid (∀ k, k < len → (fs.take (k + 1)).foldl mn f0 = mn ((fs.take k).foldl mn f0) (frAt fs k)) := fun k hk => fold_take fs f0 k (by rw [hl.out]; exact hk)
  have HOK : Hid (∀ k, OkF ((fs.take k).foldl mn f0)) := fun k => fold_ok _ _ o0 (fun f hf => hfs f (List.mem_of_mem_take hf))
  have HO2 : Hid (∀ k, k < len → OkF (frAt fs k)) := fun k hk => hfs _ (by unfold frAt; rw [List.getElem?_eq_getElem (by rw [hl.out]; exact hk), Option.getD_some]; exact List.getElem_mem _)
  go_enter Tryz.func68, Tryz.ntmps68
  go_upto_region 3 with fail
  rw [← hW]
  clear hW
  go_loopw [11] (fun i wr => ∃ (k : Nat) (m : Int × Int), k ≤ len ∧ i = .int .i64 k ∧ m = (fs.take k).foldl mn f0 ∧ wr.heap[w.heap.size + 2]? = some (.cells #[.int .i64 m.1, .int .i64 m.2] 61 (0, 0)) ∧ wr.heap[w.heap.size + 1]? = some (.cells #[.int .i64 0, .int .i64 0] 61 (0, 0)) ∧ Below w.heap.size w wr) (fun i _ => len - (intOf i).toNat)
  case atStart => exact ⟨0, f0, Nat.zero_le _, rfl, rfl, LB, RB, H⟩
  case round =>
    obtain ⟨k, m, hk, rfl, hm, LB, RB, H⟩ := hrel
    have hs1 := h0.below H
    have zl := blk_lt LB
    by_cases hlt : k < len
    case neg =>
      obtain rfl : len = k := by omega
      rw [List.take_of_length_le (by rw [hl.out]; exact Nat.le_refl _)] at hm
      obtain ⟨l0, l1⟩ := blk_2 LB
      obtain ⟨q0, q1, qf0, qf1⟩ := blkF RB
      have RB2 := setF2 RB (u0 := .int .i64 m.1) (u1 := .int .i64 m.2)
      obtain ⟨v0, v1⟩ := blk_2 RB2
      have HM : Hid (m = fs.foldl mn f0) := hm
      clear hm
      go_wp2_with fail
      refine bodyPost_ret (v := .agg #[.int .i64 m.1, .int .i64 m.2]) (by simp [results, Tryz.results68, go_sem, v0, v1]) rfl ⟨by rw [HM.out], ?_⟩
      exact bw_set (bw_set H (p := ⟨w.heap.size + 1, 0, none⟩) (by dsimp only; omega) _) (p := ⟨w.heap.size + 1, 1, none⟩) (by dsimp only; omega) _
    case pos =>
      have om : OkF m := by rw [hm]; exact HOK.out k
      have og := HO2.out k hlt
      have hst := HT.out k hlt
      rw [← hm] at hst
      clear hm
      obtain ⟨c0, c1⟩ := hc k hlt
      have d0 := (H.cell (p := ⟨b, off + k * 2, none⟩) hb).trans c0
      have d1 := (H.cell (p := ⟨b, off + k * 2 + 1, none⟩) hb).trans c1
      obtain ⟨l0, l1⟩ := blk_2 LB
      have i0 : (0 : Int) ≤ (k : Int) := Int.natCast_nonneg _
      have i1 : (k : Int) < (len : Int) := by omega
      have k9 : (k : Int) ≤ 1000 := by omega
      generalize frAt fs k = g at *
      have HS : Hid ((fs.take (k + 1)).foldl mn f0 = mn m g) := hst
      clear hst c0 c1
      by_cases c : g.1 * m.2 < m.1 * g.2
      · have m1 : mn m g = g := if_pos c
        have e1 := cmpI_lt _ _ c
        clear c
        go_wp2_with fail
        refine (fracCmp_both g.1 g.2 m.1 m.2 ad _ (hs1.below (bw_alloc (bw_refl _) _)) og om).mono ?_
        rw [e1]
        rintro e w1 ⟨rfl, K⟩
        have FB := keep K (heap_new _ _)
        replace LB := keep K ((heap_old _ _ (blk_lt LB)).trans LB)
        replace RB := keep K ((heap_old _ _ (blk_lt RB)).trans RB)
        replace H := bw_trans (bw_alloc H _) K
        clear l0 l1 K hs1 d0 d1
        have zf := blk_lt FB
        obtain ⟨u0, u1⟩ := blk_2 FB
        obtain ⟨q0, q1, qf0, qf1⟩ := blkF LB
        go_wp2_with fail
        have LB2 := setF2 LB (u0 := .int .i64 g.1) (u1 := .int .i64 g.2)
        have RB2 := setO2 RB (b := w.heap.size + 2) (i := 0) (j := 1) (v := .int .i64 g.1) (u := .int .i64 g.2) (by omega)
        have H2 := bw_set (bw_set H (p := ⟨w.heap.size + 2, 0, none⟩) (by dsimp only; omega) (.int .i64 g.1)) (p := ⟨w.heap.size + 2, 1, none⟩) (by dsimp only; omega) (.int .i64 g.2)
        go_roundw
        case rel => exact ⟨k + 1, g, by omega, by simp, by rw [HS.out, m1], LB2, RB2, H2⟩
        case measure => simp [intOf]; omega
      · have m1 : mn m g = m := if_neg c
        have e1 := cmpI_ge _ _ c
        obtain ⟨x, hx⟩ : ∃ x, cmpI (g.1 * m.2) (m.1 * g.2) = x := ⟨_, rfl⟩
        rw [hx] at e1
        clear c
        have hcall := fracCmp_both g.1 g.2 m.1 m.2 ad (wr.alloc (.cells #[.int .i64 g.1, .int .i64 g.2] 61)) (hs1.below (bw_alloc (bw_refl _) _)) og om
        rw [hx] at hcall
        clear hx
        go_wp2_with fail
        refine hcall.mono ?_
        rintro e w1 ⟨rfl, K⟩
        replace LB := keep K ((heap_old _ _ (blk_lt LB)).trans LB)
        replace RB := keep K ((heap_old _ _ (blk_lt RB)).trans RB)
        replace H := bw_trans (bw_alloc H _) K
        clear l0 l1 K hs1 d0 d1
        go_wp2_with fail
        go_roundw
        case rel => exact ⟨k + 1, m, by omega, by simp, by rw [HS.out, m1], LB, RB, H⟩
        case measure => simp [intOf]; omega
end Go.Proofs.YtkncejcpeejkkaaGreatDoor
namespace Go.Proofs.YtkncejcpeejkkaaGreatDoor

/-- The least of some fractions. -/
def leastL : List (Int × Int) → Int × Int
  | [] => (0, 0)
  | f :: fs => fs.foldl mn f
/-- It is one of them, and not more than any. -/
structure LeastOf (m : Int × Int) (fs : List (Int × Int)) : Prop where
  mem : m ∈ fs
  le : ∀ f ∈ fs, LeF m f
theorem foldl_mn (fs : List (Int × Int)) : ∀ (f0 : Int × Int), OkF f0 → (∀ f ∈ fs, OkF f) → LeastOf (fs.foldl mn f0) (f0 :: fs) ∧ OkF (fs.foldl mn f0) := by
  induction fs with
  | nil => intro f0 h0 _; exact ⟨⟨by simp, fun f hf => by simp at hf; rw [hf]; exact LeF.refl _⟩, h0⟩
  | cons g fs ih =>
    intro f0 h0 h
    have hg := h g (by simp)
    have ho := mn_ok h0 hg
    obtain ⟨⟨h1, h2⟩, h3⟩ := ih (mn f0 g) ho (fun f hf => h f (by simp [hf]))
    refine ⟨⟨?_, fun f hf => ?_⟩, h3⟩
    · rcases List.mem_cons.1 h1 with e | e
      · rcases mn_mem f0 g with e2 | e2
        · rw [List.foldl_cons, e, e2]; simp
        · rw [List.foldl_cons, e, e2]; simp
      · exact List.mem_cons_of_mem _ (List.mem_cons_of_mem _ e)
    · have hm := h2 (mn f0 g) (by simp)
      rcases List.mem_cons.1 hf with e | e
      · subst e; exact LeF.trans h3 ho h0 hm (mn_le1 _ _)
      · rcases List.mem_cons.1 e with e | e
        · subst e; exact LeF.trans h3 ho hg hm (mn_le2 _ _)
        · exact h2 f (List.mem_cons_of_mem _ e)
theorem leastL_of {fs : List (Int × Int)} (hne : fs ≠ []) (h : ∀ f ∈ fs, OkF f) : LeastOf (leastL fs) fs := by
  cases fs with
  | nil => exact absurd rfl hne
  | cons f fs => exact (foldl_mn fs f (h f (by simp)) (fun g hg => h g (by simp [hg]))).1
theorem leastL_ok {fs : List (Int × Int)} (hne : fs ≠ []) (h : ∀ f ∈ fs, OkF f) : OkF (leastL fs) := h _ (leastL_of hne h).mem
theorem LeastOf.unique {m m' : Int × Int} {fs : List (Int × Int)} (h : ∀ f ∈ fs, OkF f) (a : LeastOf m fs) (b : LeastOf m' fs) : m = m' :=
  LeF.antisymm (h _ a.mem) (h _ b.mem) (a.le _ b.mem) (b.le _ a.mem)
theorem LeastOf.congr {m : Int × Int} {fs gs : List (Int × Int)} (a : LeastOf m fs) (h : ∀ f, f ∈ fs ↔ f ∈ gs) : LeastOf m gs := ⟨(h _).1 a.mem, fun f hf => a.le f ((h f).2 hf)⟩
theorem leastL_congr {fs gs : List (Int × Int)} (hok : ∀ f ∈ fs, OkF f) (h : ∀ f, f ∈ fs ↔ f ∈ gs) : leastL fs = leastL gs := by
  cases fs with
  | nil => cases gs with
    | nil => rfl
    | cons g gs => exact absurd ((h g).2 (by simp)) (by simp)
  | cons f fs =>
    have hgs : gs ≠ [] := by rintro rfl; exact absurd ((h f).1 (by simp)) (by simp)
    exact ((leastL_of (by simp) hok).congr h).unique (fun g hg => hok g ((h g).2 hg)) (leastL_of hgs fun g hg => hok g ((h g).2 hg))
/-- The least of more is the least of both leasts. -/
theorem leastL_append {fs gs : List (Int × Int)} (hf : fs ≠ []) (hg : gs ≠ []) (okf : ∀ f ∈ fs, OkF f) (okg : ∀ f ∈ gs, OkF f) : leastL (fs ++ gs) = mn (leastL fs) (leastL gs) := by
  have a := leastL_of hf okf
  have b := leastL_of hg okg
  have ok : ∀ f ∈ fs ++ gs, OkF f := fun f h => (List.mem_append.1 h).elim (okf f) (okg f)
  refine (leastL_of (by simp [hf]) ok).unique ok ⟨?_, fun f h => ?_⟩
  · rcases mn_mem (leastL fs) (leastL gs) with e | e
    · rw [e]; exact List.mem_append_left _ a.mem
    · rw [e]; exact List.mem_append_right _ b.mem
  · have oa := okf _ a.mem
    have ob := okg _ b.mem
    rcases List.mem_append.1 h with h | h
    · exact LeF.trans (mn_ok oa ob) oa (okf f h) (mn_le1 (leastL fs) (leastL gs)) (a.le f h)
    · exact LeF.trans (mn_ok oa ob) ob (okg f h) (mn_le2 (leastL fs) (leastL gs)) (b.le f h)
end Go.Proofs.YtkncejcpeejkkaaGreatDoor
namespace Go.Proofs.YtkncejcpeejkkaaGreatDoor
open Go.RowKit Go.Sort

theorem frCells_at (fs : List (Int × Int)) (j : Nat) (hj : j < fs.length) : (frCells fs)[j * 2]? = some (.int .i64 (frAt fs j).1) ∧ (frCells fs)[j * 2 + 1]? = some (.int .i64 (frAt fs j).2) := by
  induction fs generalizing j with
  | nil => simp at hj
  | cons f fs ih =>
    have e : frCells (f :: fs) = .int .i64 f.1 :: .int .i64 f.2 :: frCells fs := by simp [frCells]
    cases j with
    | zero => rw [e]; exact ⟨rfl, rfl⟩
    | succ j =>
      have := ih j (by simpa using hj)
      have e1 : (j + 1) * 2 = j * 2 + 1 + 1 := by omega
      rw [e, e1]
      simpa [frAt] using this
set_option maxRecDepth 100000 in
set_option maxHeartbeats 2000000 in
theorem boardFar_any (b : Nat) (rs : List RingT) (p : P2) (ad : Addr) (w : World) (h0 : Sent ad w) (hR : RingN w.heap.size w (some ⟨b, 0, none⟩) rs) (hes : (edgR rs).length ≤ 1000) (he1 : 2 ≤ (edgR rs).length) (hok : ∀ s ∈ edgR rs, OkF (farS p s)) :
    Calls Tryz.prog 49 #[.pointer (some ⟨b, 0, none⟩), .agg #[.int .i64 p.1, .int .i64 p.2]] w fun e W' => e = .returned (.agg #[.int .i64 (leastL ((edgR rs).map (farS p))).1, .int .i64 (leastL ((edgR rs).map (farS p))).2]) ∧ Below w.heap.size w W' := by
  obtain ⟨W, hW, BW, T, RB⟩ := boxes2 w (.cells #[.int .i64 p.1, .int .i64 p.2] 43) (.cells #[.int .i64 0, .int .i64 0] 61)
  obtain ⟨M, hM⟩ : ∃ M, (edgR rs).length = M := ⟨_, rfl⟩
  have hcall := callsIn_wide.1 (fars_in 12 (Nat.le_refl _) b rs p ad W (h0.below BW) (by have := hR.keep BW; exact RingL.ringN (Nat.le_refl _) (RingL.grow BW.size this.ringL)) hes)
  obtain ⟨fs, hfs⟩ : ∃ fs, (edgR rs).map (farS p) = fs := ⟨_, rfl⟩
  have hfl : fs.length = M := by rw [← hfs, List.length_map, hM]
  have hfo : ∀ f ∈ fs, OkF f := by intro f hf; rw [← hfs] at hf; obtain ⟨s, hs, rfl⟩ := List.mem_map.1 hf; exact hok s hs
  rw [hfs, hM] at hcall
  rw [hM] at hes he1
  rw [hfs]
  obtain ⟨r, hr⟩ : ∃ r, leastL fs = r := ⟨_, rfl⟩
  rw [hr]
  have Hr : Hid (leastL fs = r) := hr
  clear hfs hok hr
  obtain ⟨t0, t1⟩ := blk_2 T
  go_enter Tryz.func49, Tryz.ntmps49
  go_upto_region 1 with fail
  rw [← hW]
  clear hW
  go_wp2_with fail
  refine hcall.mono ?_
  rintro e w1 ⟨v, rfl, ho, J⟩
  have ho' := ho
  rcases ho.2 with ⟨_, hz⟩ | ⟨g, c, cur, rfl, hgb, hg, hMc, hcm, _⟩
  · omega
  have zg := (Array.getElem?_eq_some_iff.1 hg).1
  have hc := ho'.cells (g := g) rfl
  have add : ∀ k : Nat, (⟨g, 0, none⟩ : Addr).add k = ⟨g, k, none⟩ := fun k => by unfold Addr.add; split <;> simp_all
  have hcell : ∀ j, j < M → w1.cell? ⟨g, j * 2, none⟩ = some (.int .i64 (frAt fs j).1) ∧ w1.cell? ⟨g, j * 2 + 1, none⟩ = some (.int .i64 (frAt fs j).2) := fun j hj => by
    obtain ⟨a0, a1⟩ := frCells_at fs j (by omega)
    have d0 := hc _ _ a0
    have d1 := hc _ _ a1
    rw [add] at d0 d1
    exact ⟨d0, d1⟩
  obtain ⟨f, fs', rfl⟩ : ∃ f fs', fs = f :: fs' := by
    cases fs with
    | nil => simp at hfl; omega
    | cons f fs' => exact ⟨f, fs', rfl⟩
  obtain ⟨d0, d1⟩ := hcell 0 (by omega)
  simp only [Nat.zero_mul, Nat.zero_add, frAt, List.getElem?_cons_zero, Option.getD_some] at d0 d1
  have i1 : (0 : Int) < (M : Int) := by omega
  have i4 : 0 < M := by omega
  have hgne : g ≠ w.heap.size + 1 := by have := blk_lt RB; omega
  have i2 : (1 : Int) ≤ (M : Int) := by omega
  have i3 : (M : Int) ≤ (c : Int) := by omega
  have zW := BW.size
  have RB1 := keep J RB
  have zR := blk_lt RB
  have hl' : Hid (fs'.length = M - 1) := by change _ = _; simp at hfl; omega
  have hcl : ∀ j, j < M - 1 → w1.cell? ⟨g, 2 + j * 2, none⟩ = some (.int .i64 (frAt fs' j).1) ∧ w1.cell? ⟨g, 2 + j * 2 + 1, none⟩ = some (.int .i64 (frAt fs' j).2) := fun j hj => by
    have := hcell (j + 1) (by omega)
    rw [show (j + 1) * 2 = 2 + j * 2 by omega] at this
    simpa [frAt] using this
  have hs1 := (h0.below BW).below J
  have B2 : Below w1.heap.size w1 w1.drew := bw_drew (bw_refl _)
  have hL := fun cap => leastRow_ok f fs' g 2 (M - 1) cap ad w1.drew (hs1.below B2) (hfo f (by simp)) (fun x hx => hfo x (by simp [hx])) hl' (by omega) zg hcl
  have e1 : ((M : Int) - 1).toNat = M - 1 := by omega
  have c1' : (c = 1) = False := by simp; omega
  have RBd := RB1
  obtain ⟨q0, q1, qf0, qf1⟩ := blkF RB1
  have hr : fs'.foldl mn f = r := Hr.out
  rw [hr] at hL
  clear hcell hc ho ho' hr
  go_wp2_with fail
  go_region_held3 (fun w' => w'.cell? ⟨g, 0, none⟩ = some (.int .i64 f.1) ∧ w'.cell? ⟨g, 1, none⟩ = some (.int .i64 f.2))
    (first | go_keep | exact ⟨(J2.cell (p := ⟨g, 0, none⟩) zg).trans d0, (J2.cell (p := ⟨g, 1, none⟩) zg).trans d1⟩ | exact ⟨cellS2 ((J2.cell (p := ⟨g, 0, none⟩) zg).trans d0) hgne, cellS2 ((J2.cell (p := ⟨g, 1, none⟩) zg).trans d1) hgne⟩)
    ((go_at_call 68; refine (hL _).mono ?_; rintro e w2 ⟨rfl, J2⟩; have RB2 : w2.heap[w.heap.size + 1]? = some (.cells #[.int .i64 0, .int .i64 0] 61 (0, 0)) := keep J2 RBd; obtain ⟨x0, x1, xf0, xf1⟩ := blkF RB2))
  have RB3 := setF2 RB2 (u0 := .int .i64 r.1) (u1 := .int .i64 r.2)
  obtain ⟨v0, v1⟩ := blk_2 RB3
  go_wp2_with fail
  exact bodyPost_ret (v := .agg #[.int .i64 r.1, .int .i64 r.2]) (by simp [results, Tryz.results49, go_sem, v0, v1]) rfl ⟨rfl, bw_set (bw_set (bw_trans (bw_trans (bw_trans BW J) B2) J2) (p := ⟨w.heap.size + 1, 0, none⟩) (by dsimp only; omega) _) (p := ⟨w.heap.size + 1, 1, none⟩) (by dsimp only; omega) _⟩
end Go.Proofs.YtkncejcpeejkkaaGreatDoor
namespace Go.Proofs.YtkncejcpeejkkaaGreatDoor
open Go.RowKit Go.Sort

/-- The edges that are told of a plate. -/
def plE (o : List P2) (hs : List (List P2)) : List (P2 × P2) := if plV o hs then segsL o ++ hs.flatMap segsL else []
theorem flat_len (hs : List (List P2)) (h : ∀ x ∈ hs, x.length ≤ 8) : (hs.flatMap segsL).length ≤ 8 * hs.length := by
  induction hs with
  | nil => simp
  | cons x xs ih =>
    have h1 := h x (by simp)
    have h2 := ih (fun y hy => h y (by simp [hy]))
    rw [List.flatMap_cons, List.length_append, segsL_len, List.length_cons]; omega
theorem plE_len (o : List P2) (hs : List (List P2)) : (plE o hs).length ≤ 24 := by
  unfold plE
  cases hv : plV o hs
  · simp
  · have L := (plV_iff o hs).1 hv
    have h0 := (okV_pos L.out).2
    have h1 := plV_len hv
    have h2 := flat_len hs (fun x hx => (okV_pos (L.ok x hx)).2)
    rw [if_pos rfl, List.length_append, segsL_len]; omega
theorem edgR_eq (x : RingT) (xs : List RingT) (hs : List (List P2)) (h : xs.map RingT.pts = hs) : edgR (x :: xs) = segsL x.pts ++ hs.flatMap segsL := by
  rw [← h]; simp [edgR, List.flatMap_map]
theorem ansS_mono {base base' top : Nat} {W : World} {v : Value} {ss : List (P2 × P2)} (h : AnsS base top W v ss) (hb : base' ≤ base) : AnsS base' top W v ss := by
  rcases h with h | ⟨g, c, e, h1, r⟩
  · exact .inl h
  · exact .inr ⟨g, c, e, by omega, r⟩
end Go.Proofs.YtkncejcpeejkkaaGreatDoor
namespace Go.Proofs.YtkncejcpeejkkaaGreatDoor
open Go.RowKit Go.Sort

theorem segsL_mem (l : List P2) (s : P2 × P2) : s ∈ segsL l ↔ ∃ i, i < l.length ∧ s = (ptAt l i, ptAt l (nxt l i)) := by
  unfold segsL; simp only [List.mem_map, List.mem_range]
  exact ⟨fun ⟨i, h, e⟩ => ⟨i, h, e.symm⟩, fun ⟨i, h, e⟩ => ⟨i, h, e.symm⟩⟩
theorem sAt_mem {ss : List (P2 × P2)} {j : Nat} (h : j < ss.length) : sAt ss j ∈ ss := by unfold sAt; rw [List.getElem?_eq_getElem h, Option.getD_some]; exact List.getElem_mem _
theorem plE_ok {o : List P2} {hs : List (List P2)} (hv : plV o hs = true) {s : P2 × P2} (h : s ∈ plE o hs) : sgP s.1 s.2 = true := by
  have L := (plV_iff o hs).1 hv
  unfold plE at h
  rw [hv, if_pos rfl, List.mem_append, List.mem_flatMap] at h
  rcases h with h | ⟨t, ht, h⟩
  · obtain ⟨i, hi, rfl⟩ := (segsL_mem _ _).1 h; exact okV_seg' L.out hi
  · obtain ⟨i, hi, rfl⟩ := (segsL_mem _ _).1 h; exact okV_seg' (L.ok t ht) hi
theorem plE_on {o : List P2} {hs : List (List P2)} (hv : plV o hs = true) (p : P2) : (∃ j, j < (plE o hs).length ∧ hasP (sAt (plE o hs) j).1 (sAt (plE o hs) j).2 p = true) ↔ (onL o p = true ∨ ∃ h ∈ hs, onL h p = true) := by
  have key : (∃ j, j < (plE o hs).length ∧ hasP (sAt (plE o hs) j).1 (sAt (plE o hs) j).2 p = true) ↔ ∃ s ∈ plE o hs, hasP s.1 s.2 p = true := by
    constructor
    · rintro ⟨j, hj, h⟩; exact ⟨_, sAt_mem hj, h⟩
    · rintro ⟨s, hs', h⟩
      obtain ⟨j, hj, rfl⟩ := List.getElem_of_mem hs'
      exact ⟨j, hj, by unfold sAt; rw [List.getElem?_eq_getElem hj, Option.getD_some]; exact h⟩
  rw [key]
  unfold plE
  rw [hv, if_pos rfl]
  constructor
  · rintro ⟨s, h, e⟩
    rw [List.mem_append, List.mem_flatMap] at h
    rcases h with h | ⟨t, ht, h⟩
    · obtain ⟨i, hi, rfl⟩ := (segsL_mem _ _).1 h; exact .inl ((onL_iff _ _).2 ⟨i, hi, e⟩)
    · obtain ⟨i, hi, rfl⟩ := (segsL_mem _ _).1 h; exact .inr ⟨t, ht, (onL_iff _ _).2 ⟨i, hi, e⟩⟩
  · rintro (h | ⟨t, ht, h⟩)
    · obtain ⟨i, hi, e⟩ := (onL_iff _ _).1 h; exact ⟨_, List.mem_append.2 (.inl ((segsL_mem _ _).2 ⟨i, hi, rfl⟩)), e⟩
    · obtain ⟨i, hi, e⟩ := (onL_iff _ _).1 h; exact ⟨_, List.mem_append.2 (.inr (List.mem_flatMap.2 ⟨t, ht, (segsL_mem _ _).2 ⟨i, hi, rfl⟩⟩)), e⟩
end Go.Proofs.YtkncejcpeejkkaaGreatDoor
namespace Go.Proofs.YtkncejcpeejkkaaGreatDoor
open Go.RowKit Go.Sort

theorem farS_of {p : P2} {s : P2 × P2} (hs : sgP s.1 s.2 = true) (hp : ptB p.1 p.2 = true) : farS p s = far s.1.1 s.1.2 s.2.1 s.2.2 p.1 p.2 := farV_ok hs hp
theorem farS_ok {p : P2} {s : P2 × P2} (hs : sgP s.1 s.2 = true) (hp : ptB p.1 p.2 = true) : OkF (farS p s) := by rw [farS_of hs hp]; exact far_ok hs hp
theorem plE_eq {o : List P2} {hs : List (List P2)} (hv : plV o hs = true) : plE o hs = segsL o ++ hs.flatMap segsL := by unfold plE; rw [hv, if_pos rfl]
theorem plE_ne {o : List P2} {hs : List (List P2)} (hv : plV o hs = true) : 3 ≤ (plE o hs).length := by
  have L := (plV_iff o hs).1 hv
  have := (okV_pos L.out).1
  rw [plE_eq hv, List.length_append, segsL_len]; omega
/-- How far a point is from the nearest edge. -/
def plFI (o : List P2) (hs : List (List P2)) (p : P2) : Int × Int := leastL ((plE o hs).map (farS p))
/-- The same, where all is ok; else nothing. -/
def plFV (o : List P2) (hs : List (List P2)) (p : P2) : Int × Int := if plV o hs && ptB p.1 p.2 then plFI o hs p else (0, 0)
theorem plFV_ok {o : List P2} {hs : List (List P2)} {p : P2} (hv : plV o hs = true) (hp : ptB p.1 p.2 = true) : plFV o hs p = plFI o hs p := by unfold plFV; rw [hv, hp]; rfl
theorem plFV_no {o : List P2} {hs : List (List P2)} {p : P2} (h : plV o hs = false ∨ ptB p.1 p.2 = false) : plFV o hs p = (0, 0) := by
  unfold plFV
  rcases h with h | h
  · rw [h]; rfl
  · rw [h, Bool.and_false]; rfl
theorem plE_far {o : List P2} {hs : List (List P2)} {p : P2} (hv : plV o hs = true) (hp : ptB p.1 p.2 = true) : ∀ f ∈ (plE o hs).map (farS p), OkF f := by
  intro f hf
  obtain ⟨s, h, rfl⟩ := List.mem_map.1 hf
  exact farS_ok (plE_ok hv h) hp
theorem plFI_least {o : List P2} {hs : List (List P2)} {p : P2} (hv : plV o hs = true) (hp : ptB p.1 p.2 = true) : LeastOf (plFI o hs p) ((plE o hs).map (farS p)) :=
  leastL_of (by intro e; have := plE_ne hv; have e2 := congrArg List.length e; rw [List.length_map, List.length_nil] at e2; omega) (plE_far hv hp)
theorem plFI_ok {o : List P2} {hs : List (List P2)} {p : P2} (hv : plV o hs = true) (hp : ptB p.1 p.2 = true) : OkF (plFI o hs p) := plE_far hv hp _ (plFI_least hv hp).mem
theorem plFI_mem {o : List P2} {hs : List (List P2)} {p : P2} (hv : plV o hs = true) (hp : ptB p.1 p.2 = true) : ∃ j, j < (plE o hs).length ∧ farS p (sAt (plE o hs) j) = plFI o hs p := by
  obtain ⟨s, h, e⟩ := List.mem_map.1 (plFI_least hv hp).mem
  obtain ⟨j, hj, rfl⟩ := List.getElem_of_mem h
  exact ⟨j, hj, by unfold sAt; rw [List.getElem?_eq_getElem hj, Option.getD_some]; exact e⟩
theorem plFI_le {o : List P2} {hs : List (List P2)} {p : P2} (hv : plV o hs = true) (hp : ptB p.1 p.2 = true) {j : Nat} (hj : j < (plE o hs).length) : LeF (plFI o hs p) (farS p (sAt (plE o hs) j)) :=
  (plFI_least hv hp).le _ (List.mem_map.2 ⟨_, sAt_mem hj, rfl⟩)
/-- It is 0 just on an edge. -/
theorem plFI_zero {o : List P2} {hs : List (List P2)} {p : P2} (hv : plV o hs = true) (hp : ptB p.1 p.2 = true) : plFI o hs p = (0, 1) ↔ plI o hs p = 0 := by
  rw [plI_zero hv, ← plE_on hv p]
  have z : ∀ j, j < (plE o hs).length → (farS p (sAt (plE o hs) j) = (0, 1) ↔ hasP (sAt (plE o hs) j).1 (sAt (plE o hs) j).2 p = true) := fun j hj => by
    have hs := plE_ok hv (sAt_mem hj)
    rw [farS_of hs hp, ← ok_zero (far_ok hs hp)]
    exact far_zero hs hp
  constructor
  · intro h
    obtain ⟨j, hj, e⟩ := plFI_mem hv hp
    exact ⟨j, hj, (z j hj).1 (by rw [e]; exact h)⟩
  · rintro ⟨j, hj, h⟩
    have hl := plFI_le hv hp hj
    rw [(z j hj).2 h] at hl
    have hp' := (plFI_ok hv hp).pos
    unfold LeF at hl
    exact (ok_zero (plFI_ok hv hp)).1 (by dsimp only at hl; omega)
theorem ptAt_mem {l : List P2} {i : Nat} (h : i < l.length) : ptAt l i ∈ l := by unfold ptAt; rw [List.getElem?_eq_getElem h, Option.getD_some]; exact List.getElem_mem _
theorem okV_plV {l : List P2} (h : okV l = true) : plV l [] = true := h
theorem segsL_ne {l : List P2} (h : okV l = true) (p : P2) : (segsL l).map (farS p) ≠ [] := by
  intro e
  have := congrArg List.length e
  rw [List.length_map, segsL_len, List.length_nil] at this
  have := (okV_pos h).1
  omega
/-- With a hole more it is the lesser of what it was, and how far that hole is. -/
theorem plFI_snoc {o h : List P2} {hs : List (List P2)} {p : P2} (hv : plV o (hs ++ [h]) = true) (hp : ptB p.1 p.2 = true) : plFI o (hs ++ [h]) p = mn (plFI o hs p) (plFI h [] p) := by
  have hv' : plV o hs = true := by have := plV_less hv; rwa [List.dropLast_concat] at this
  have L := (plV_iff _ _).1 hv
  have ok := L.ok h (by simp)
  have ho := plE_far hv' hp
  have hh := plE_far (okV_plV ok) hp
  have e : plE o (hs ++ [h]) = plE o hs ++ plE h [] := by rw [plE_eq hv, plE_eq hv', plE_eq (okV_plV ok)]; simp
  unfold plFI
  rw [e, List.map_append]
  refine leastL_append ?_ ?_ ho hh
  · intro e; have := plE_ne hv'; have e2 := congrArg List.length e; rw [List.length_map, List.length_nil] at e2; omega
  · intro e; have := plE_ne (okV_plV ok); have e2 := congrArg List.length e; rw [List.length_map, List.length_nil] at e2; omega
/-- What moves points, and leaves how far they are. -/
theorem segsL_map (f : P2 → P2) (l : List P2) : segsL (l.map f) = (segsL l).map fun s => (f s.1, f s.2) := by
  unfold segsL
  rw [List.length_map, List.map_map]
  refine List.map_congr_left fun i hi => ?_
  have h1 : i < l.length := List.mem_range.1 hi
  simp only [Function.comp, map_nxt]
  rw [map_at h1, map_at (nxt_lt (by omega))]
theorem plFI_map {f : P2 → P2} {o : List P2} {hs : List (List P2)} {p : P2} (hv : plV o hs = true) (hv' : plV (o.map f) (hs.map (List.map f)) = true) (hf : ∀ s ∈ plE o hs, farS (f p) (f s.1, f s.2) = farS p s) : plFI (o.map f) (hs.map (List.map f)) (f p) = plFI o hs p := by
  unfold plFI
  have e : plE (o.map f) (hs.map (List.map f)) = (plE o hs).map fun s => (f s.1, f s.2) := by
    rw [plE_eq hv, plE_eq hv', segsL_map, List.map_append, List.flatMap_map, List.map_flatMap]
    simp only [segsL_map]
  rw [e, List.map_map]
  exact congrArg leastL (List.map_congr_left fun s h => hf s h)
theorem plFI_mir {o : List P2} {hs : List (List P2)} {p : P2} (hv : plV o hs = true) (hp : ptB p.1 p.2 = true) : plFI (o.map mirP) (hs.map (List.map mirP)) (mirP p) = plFI o hs p :=
  plFI_map hv (plV_turn turns_mir hv) fun s h => by
    have hs := plE_ok hv h
    have hs' : sgP (mirP s.1) (mirP s.2) = true := mir_side.sg _ _ hs
    have hp' : ptB (mirP p).1 (mirP p).2 = true := by rw [ptB_iff] at hp ⊢; unfold mirP; dsimp only; omega
    rw [farS_of (s := (mirP s.1, mirP s.2)) hs' hp', farS_of hs hp]
    exact far_mir _ _ _ _ _ _
theorem plFI_swp {o : List P2} {hs : List (List P2)} {p : P2} (hv : plV o hs = true) (hp : ptB p.1 p.2 = true) : plFI (o.map swpP) (hs.map (List.map swpP)) (swpP p) = plFI o hs p :=
  plFI_map hv (plV_turn turns_swp hv) fun s h => by
    have hs := plE_ok hv h
    have hs' : sgP (swpP s.1) (swpP s.2) = true := swp_side.sg _ _ hs
    have hp' : ptB (swpP p).1 (swpP p).2 = true := by rw [ptB_iff] at hp ⊢; unfold swpP; dsimp only; omega
    rw [farS_of (s := (swpP s.1, swpP s.2)) hs' hp', farS_of hs hp]
    exact far_swap _ _ _ _ _ _
/-- In a plate on the other side what is in is in. -/
theorem plI_map {f : P2 → P2} (hf : ∀ l p, inI (l.map f) (f p) = inI l p) (o : List P2) (hs : List (List P2)) (p : P2) : plI (o.map f) (hs.map (List.map f)) (f p) = plI o hs p := by
  unfold plI
  rw [List.foldl_map, hf]
  simp only [hf]
end Go.Proofs.YtkncejcpeejkkaaGreatDoor
namespace Go.Proofs.YtkncejcpeejkkaaGreatDoor
open Go.RowKit Go.Sort

/-- A tool is ok. -/
def rV (r : Int) : Bool := decide (1 ≤ r ∧ r ≤ 9)
theorem rV_iff (r : Int) : rV r = true ↔ 1 ≤ r ∧ r ≤ 9 := by simp [rV]
/-- The tool does not cut what is as far. -/
def spB (r : Int) (f : Int × Int) : Bool := decide (r * f.2 ≤ f.1)
/-- It fits, where all is ok. -/
def fitI (o : List P2) (hs : List (List P2)) (r : Int) (p : P2) : Bool := decide (plI o hs p = 1) && spB r (plFI o hs p)
/-- It fits. -/
def fitV (o : List P2) (hs : List (List P2)) (r : Int) (p : P2) : Bool := rV r && plV o hs && ptB p.1 p.2 && fitI o hs r p
theorem ok_whole {r : Int} (h : rV r = true) : okB r 1 = true := by
  rw [rV_iff] at h
  rw [okB_iff]
  refine ⟨by omega, by omega, by omega, by omega, ?_⟩
  exact G_one r
theorem sp_cmp {r : Int} {f : Int × Int} (h : rV r = true) (hf : OkF f) : decide (cmpV r 1 f.1 f.2 ≤ 0) = spB r f := by
  unfold cmpV spB
  rw [ok_whole h, show okB f.1 f.2 = true from hf]
  show decide (cmpI (r * f.2) (f.1 * 1) ≤ 0) = _
  rw [Int.mul_one]
  unfold cmpI
  by_cases h1 : r * f.2 < f.1
  · rw [if_pos h1]; simp; omega
  · rw [if_neg h1]
    by_cases h2 : f.1 < r * f.2
    · rw [if_pos h2]; simp; omega
    · rw [if_neg h2]; simp; omega
theorem fitV_ok {o : List P2} {hs : List (List P2)} {r : Int} {p : P2} (hr : rV r = true) (hv : plV o hs = true) (hp : ptB p.1 p.2 = true) : fitV o hs r p = fitI o hs r p := by unfold fitV; rw [hr, hv, hp]; rfl
end Go.Proofs.YtkncejcpeejkkaaGreatDoor
namespace Go.Proofs.YtkncejcpeejkkaaGreatDoor
open Go.RowKit Go.Sort

set_option maxRecDepth 100000 in
set_option maxHeartbeats 4000000 in
theorem boardIn_any (b : Nat) (o : RingT) (hs : List RingT) (p : P2) (w : World) (hR : RingL w.heap.size w (some ⟨b, 0, none⟩) (o :: hs)) (hok : ((o :: hs).all fun x => okV x.pts) = true) (hp : ptB p.1 p.2 = true) :
    Calls Tryz.prog 65 #[.pointer (some ⟨b, 0, none⟩), .agg #[.int .i64 p.1, .int .i64 p.2]] w fun e W' => e = .returned (.int .i64 (plI o.pts (hs.map RingT.pts) p)) ∧ Below w.heap.size w W' := by
  obtain ⟨b0, q0, t0, e0, ob, ol, oP, hR⟩ := hR
  cases e0
  rw [List.all_cons, Bool.and_eq_true] at hok
  have B0 : Below w.heap.size w (w.alloc (.cells #[.int .i64 p.1, .int .i64 p.2] 43)) := (by repeat (first | exact bw_refl _ | assumption | apply bw_drewN | apply bw_drew | apply bw_alloc | refine bw_set ?_ (by simp) _))
  obtain ⟨W, hW, BW, T⟩ : ∃ W, W = w.alloc (.cells #[.int .i64 p.1, .int .i64 p.2] 43) ∧ Below w.heap.size w W ∧ W.heap[w.heap.size]? = some (.cells #[.int .i64 p.1, .int .i64 p.2] 43) := ⟨_, rfl, (by repeat (first | exact bw_refl _ | assumption | apply bw_drewN | apply bw_drew | apply bw_alloc | refine bw_set ?_ (by simp) _)), heap_new _ _⟩
  have hpl : Hid (plI o.pts (hs.map RingT.pts) p = hs.foldl (fun s x => min s (-(inI x.pts p))) (inI o.pts p)) := by change _ = _; unfold plI; rw [List.foldl_map]
  have hall : Hid (∀ x ∈ hs, okV x.pts = true) := List.all_eq_true.1 hok.2
  have HW : Hid (∀ d os, Calls Tryz.prog 81 #[.slice o.a o.len o.cap, .agg #[.int .i64 p.1, .int .i64 p.2]] (grow (redrawn W d) os) fun e W' => e = .returned (.int .i64 (inI o.pts p)) ∧ Below (grow (redrawn W d) os).heap.size (grow (redrawn W d) os) W') := fun d os =>
    where_any o.a o.len o.cap o.pts p ol hok.1 hp _ ((oP.below (bw_trans BW (below_regrown W d os))).grow (bw_trans BW (below_regrown W d os)).size)
  obtain ⟨o0, o1, _, _⟩ := lies2 (ob.below BW)
  have o0' := cell_regrown o0
  obtain ⟨t0', t1'⟩ := reg_2 T
  have h3 := inI_3 o.pts p
  have hR1 := (hR.below BW (Nat.le_refl _)).grow BW.size
  have ob1 := ob.below BW
  clear o0 o1 hok
  generalize inI o.pts p = u0 at *
  go_enter Tryz.func65, Tryz.ntmps65
  go_upto_region 1 with fail
  rw [← hW]
  clear hW
  refine wp_region_quiet_below (by kernel_rfl) (by kernel_rfl) ?_
  repeat (first | go_big_quiet_step (first | (go_at_call 81; with_reducible exact Calls.regrown_of (HW.out _ _))))
  refine wpQuiet_nil ?_
  intro _ hw'
  obtain ⟨⟨dq, osq⟩, hw''⟩ := hw'
  subst hw''
  have J := below_regrown W dq osq
  generalize grow (redrawn W dq) osq = v at J ⊢
  obtain ⟨o0, o1, _, _⟩ := lies2 (ob1.below J)
  have K := bw_trans BW J
  replace T := keep J T
  have hR2 := (hR1.below J (Nat.le_refl _)).grow J.size
  clear HW t0' t1' o0' hR1 hR
  go_wp2_with fail
  go_loopw [5, 6] (fun s q wr => ∃ (u : Int) (q' : Option Addr) (rest : List RingT), s = .int .i64 u ∧ q = .pointer q' ∧ (-1 ≤ u ∧ u ≤ 1) ∧ RingL wr.heap.size wr q' rest ∧ (∀ x ∈ rest, okV x.pts = true) ∧ hs.foldl (fun s x => min s (-(inI x.pts p))) u0 = rest.foldl (fun s x => min s (-(inI x.pts p))) u ∧ Below v.heap.size v wr) (fun _ q wr => ringsLeft wr q)
  case atStart => exact ⟨u0, q0, hs, rfl, rfl, by omega, hR2, hall.out, rfl, bw_refl _⟩
  case round =>
    obtain ⟨u, q', rest, rfl, rfl, hu, hL, hak, he, hnx⟩ := hrel
    cases rest with
    | nil =>
      obtain rfl : q' = none := hL
      have e1 : Hid (plI o.pts (hs.map RingT.pts) p = u) := by change _ = _; rw [hpl.out, he]; rfl
      clear he
      go_wp2_with fail
      go_ret
      exact ⟨ret_int e1.out.symm, bw_trans K hnx⟩
    | cons y ys =>
      have hL' := hL
      obtain ⟨b1, q1, t1, rfl, hb, hlen, hP, hr⟩ := hL
      obtain ⟨d0, d1, _, _⟩ := lies2 hb
      have d0' := cell_regrown d0
      have d1' := cell_regrown d1
      obtain ⟨t0', t1'⟩ := reg_2 (keep hnx T)
      have y3 := inI_3 y.pts p
      have HW : Hid (∀ d os, Calls Tryz.prog 81 #[.slice y.a y.len y.cap, .agg #[.int .i64 p.1, .int .i64 p.2]] (grow (redrawn wr d) os) fun e W' => e = .returned (.int .i64 (inI y.pts p)) ∧ Below (grow (redrawn wr d) os).heap.size (grow (redrawn wr d) os) W') := fun d os =>
        where_any y.a y.len y.cap y.pts p hlen (hak y (by simp)) hp _ ((hP.below (below_regrown wr d os)).grow (below_regrown wr d os).size)
      have he1 : Hid (hs.foldl (fun s x => min s (-(inI x.pts p))) u0 = ys.foldl (fun s x => min s (-(inI x.pts p))) (min u (-(inI y.pts p)))) := he
      clear he
      generalize inI y.pts p = u1 at *
      have nu : IntKind.i64.wrap (-u1) = -u1 := wrap_small (by omega) (by omega)
      clear d0 d1
      by_cases hm : -u1 < u
      · have hmin : min u (-u1) = -u1 := by omega
        go_wp2_with fail
        refine wp_region_quiet_below (by kernel_rfl) (by kernel_rfl) ?_
        repeat (first | go_big_quiet_step (first | (go_at_call 81; with_reducible exact Calls.regrown_of (HW.out _ _))))
        refine wpQuiet_nil ?_
        intro _ hw'
        obtain ⟨⟨dq, osq⟩, hw''⟩ := hw'
        subst hw''
        have J := below_regrown wr dq osq
        generalize grow (redrawn wr dq) osq = v2 at J ⊢
        obtain ⟨d0, d1, _, _⟩ := lies2 (hb.below J)
        go_wp2_with fail
        go_roundw
        case rel => exact ⟨-u1, q1, ys, rfl, rfl, by omega, (hr.below J (Nat.le_refl _)).grow J.size, fun x hx => hak x (by simp [hx]), by rw [he1.out, hmin], bw_trans hnx J⟩
        case measure => rw [ringsLeft_eq (hr.below J (Nat.le_refl _)), ringsLeft_eq hL']; simp
      · have hmin : min u (-u1) = u := by omega
        go_wp2_with fail
        refine wp_region_quiet_below (by kernel_rfl) (by kernel_rfl) ?_
        repeat (first | go_big_quiet_step (first | (go_at_call 81; with_reducible exact Calls.regrown_of (HW.out _ _))))
        refine wpQuiet_nil ?_
        intro _ hw'
        obtain ⟨⟨dq, osq⟩, hw''⟩ := hw'
        subst hw''
        have J := below_regrown wr dq osq
        generalize grow (redrawn wr dq) osq = v2 at J ⊢
        obtain ⟨d0, d1, _, _⟩ := lies2 (hb.below J)
        go_wp2_with fail
        go_roundw
        case rel => exact ⟨u, q1, ys, rfl, rfl, by omega, (hr.below J (Nat.le_refl _)).grow J.size, fun x hx => hak x (by simp [hx]), by rw [he1.out, hmin], bw_trans hnx J⟩
        case measure => rw [ringsLeft_eq (hr.below J (Nat.le_refl _)), ringsLeft_eq hL']; simp
end Go.Proofs.YtkncejcpeejkkaaGreatDoor
