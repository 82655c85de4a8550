/-
  OUR OWN TEXT. The law FnExactPathOk, for every input: the call returns true, and each argument reads as it did. Texts of ours, joined, so that the claim keeps to its number of files. Conditions: none but the row's own.
-/
import Derived.Test.YtkncejcpeejkkaaGreatDoorJFnExactPathOka
import Derived.Test.YtkncejcpeejkkaaGreatDoorSOk
import Derived.Test.YtkncejcpeejkkaaGreatDoorLoopX
import Derived.Test.YtkncejcpeejkkaaGreatDoorPass
import Derived.Test.YtkncejcpeejkkaaGreatDoorPlateI
import Derived.Test.YtkncejcpeejkkaaGreatDoorBack
import Derived.Test.YtkncejcpeejkkaaGreatDoorBoard
import Derived.Test.YtkncejcpeejkkaaGreatDoorOk
import Derived.Test.YtkncejcpeejkkaaGreatDoorSEdge
import Derived.Test.YtkncejcpeejkkaaGreatDoorEqSegs
import Derived.Deep.DeepAppendWide
import Derived.Test.YtkncejcpeejkkaaGreatDoorToPlate2
import Derived.Test.YtkncejcpeejkkaaGreatDoorOpenPlate
import Derived.Test.YtkncejcpeejkkaaGreatDoorEqPts
import Derived.Deep.RegionHeld3
import Derived.Test.YtkncejcpeejkkaaGreatDoorCards
import Derived.Test.YtkncejcpeejkkaaGreatDoorTie
import Derived.ProofKit
import Derived.OpenShut
import Derived.LaidMore
import Derived.MakeChecks
import Derived.Stop.Joined
import Derived.Stop.LaidErr
import Derived.WalkSmall
import Derived.ChangeOld
import Derived.Test.YtkncejcpeejkkaaGreatDoorOpenPts
import Derived.Lib.SmallJoins
namespace Go.Proofs.YtkncejcpeejkkaaGreatDoor
open Go.RowKit Go.Sort

theorem blkF3 {w : World} {b : Nat} {x y z : Value} {t : TypeId} (h : w.heap[b]? = some (.cells #[x, y, z] t (0, 0))) :
    w.cell? ⟨b, 0, none⟩ = some x ∧ w.cell? ⟨b, 1, none⟩ = some y ∧ w.cell? ⟨b, 2, none⟩ = some z ∧ w.frozen? ⟨b, 0, none⟩ = false ∧ w.frozen? ⟨b, 1, none⟩ = false ∧ w.frozen? ⟨b, 2, none⟩ = false := by
  refine ⟨?_, ?_, ?_, ?_, ?_, ?_⟩ <;> simp [World.cell?, World.frozen?, h]
theorem reg_3 {w : World} {b : Nat} {x0 x1 x2 : Value} {t : TypeId} (h : w.heap[b]? = some (.cells #[x0, x1, x2] t (0, 0))) :
    (∀ d os, (grow (redrawn w d) os).cell? ⟨b, 0, none⟩ = some x0) ∧ (∀ d os, (grow (redrawn w d) os).cell? ⟨b, 1, none⟩ = some x1) ∧ (∀ d os, (grow (redrawn w d) os).cell? ⟨b, 2, none⟩ = some x2) := by
  obtain ⟨a0, a1, a2⟩ := blk_3 h
  exact ⟨cell_regrown a0, cell_regrown a1, cell_regrown a2⟩
theorem setF3 {w : World} {b : Nat} {x0 x1 x2 u0 u1 u2 : Value} {t : TypeId} (h : w.heap[b]? = some (.cells #[x0, x1, x2] t (0, 0))) : (((w.setCell ⟨b, 0, none⟩ u0).setCell ⟨b, 1, none⟩ u1).setCell ⟨b, 2, none⟩ u2).heap[b]? = some (.cells #[u0, u1, u2] t (0, 0)) := by
  simp [World.setCell, Array.getElem?_modify, h]
theorem bw_set3 {n : Nat} {W w : World} (h : Below n W w) {b : Nat} (hb : n ≤ b) (u0 u1 u2 : Value) : Below n W (((w.setCell ⟨b, 0, none⟩ u0).setCell ⟨b, 1, none⟩ u1).setCell ⟨b, 2, none⟩ u2) :=
  ((h.setCell (p := ⟨b, 0, none⟩) hb u0).setCell (p := ⟨b, 1, none⟩) hb u1).setCell (p := ⟨b, 2, none⟩) hb u2
theorem setRow {W : World} {g : Nat} {cur : Array Value} {e : TypeId} (h : W.heap[g]? = some (.cells cur e (0, 0))) (i : Nat) (v : Value) : (W.setCell ⟨g, i, none⟩ v).heap[g]? = some (.cells (cur.setIfInBounds i v) e (0, 0)) := by
  simp [World.setCell, Array.getElem?_modify, h]
theorem ringL_set {n₀ B i : Nat} {W : World} {cs : Array Value} {t : TypeId} (hT : W.heap[B]? = some (.cells cs t (0, 0))) (hsz : cs.size = 3) (hB : n₀ ≤ B) (v : Value) : ∀ {p : Option Addr} {xs : List RingT}, RingL n₀ W p xs → RingL n₀ (W.setCell ⟨B, i, none⟩ v) p xs
  | _, [], hl => hl
  | _, _ :: _, ⟨b, q, t', hp, hL, hl, hP, hr⟩ => by
    refine ⟨b, q, t', hp, hL.other' (fun e => ?_) v, hl, ?_, ringL_set hT hsz hB v hr⟩
    · subst e
      have h2 : W.heap[b]? = _ := hL
      rw [hT] at h2; cases h2; simp at hsz
    · refine ⟨hP.1, hP.2.imp id ?_⟩
      rintro ⟨g, off, e, hg, hc⟩
      refine ⟨g, off, e, hg, fun j hj => ?_⟩
      have k : ∀ o, (W.setCell ⟨B, i, none⟩ v).cell? ⟨g, o, none⟩ = W.cell? ⟨g, o, none⟩ := fun o => World.cell?_of_block (Below.heap_setCell W ⟨B, i, none⟩ v g (fun e => by have e' : g = B := e; omega))
      rw [k, k]; exact hc j hj
/-- What toolOn hands back. -/
def ToolAns (n₀ : Nat) (ok : Bool) (r : Int) (a : Option Addr) (la ca : Nat) (o : List P2) (hs : List (List P2)) (e : Ending) (W' : World) : Prop :=
  ∃ (q : Option Addr) (n d : Int), e = .returned (.tuple #[.agg #[.pointer q, .int .i64 n, .int .i64 d], .bool ok]) ∧
    (ok = true → n = r ∧ d = 1 ∧ ∃ b xs, q = some ⟨b, 0, none⟩ ∧ RingL n₀ W' (some ⟨b, 0, none⟩) (⟨a, la, ca, o⟩ :: xs) ∧ xs.map RingT.pts = hs)
theorem toolOk_any (r : Int) (w : World) : Calls Tryz.prog 43 #[.int .i64 r] w fun e W' => e = .returned (.bool (rV r)) ∧ Below w.heap.size w W' := by
  have hw := bw_refl w
  by_cases c1 : r < 1
  · have hv : rV r = false := by rw [rV, decide_eq_false_iff_not]; omega
    rw [hv]
    go_enter Tryz.func43, Tryz.ntmps43
    go_wp2_with fail
    go_ret
    exact ⟨rfl, hw⟩
  · by_cases c2 : 9 < r
    · have hv : rV r = false := by rw [rV, decide_eq_false_iff_not]; omega
      rw [hv]
      go_enter Tryz.func43, Tryz.ntmps43
      go_wp2_with fail
      go_ret
      exact ⟨by first | rfl | (simp; omega), hw⟩
    · have hv : rV r = true := by rw [rV_iff]; omega
      rw [hv]
      go_enter Tryz.func43, Tryz.ntmps43
      go_wp2_with fail
      go_ret
      exact ⟨by first | rfl | (simp; omega), hw⟩
set_option maxRecDepth 100000 in
set_option maxHeartbeats 1000000 in
/-- A tool on a plate. -/
theorem toolOn_any (a ah : Option Addr) (la ca nh ch : Nat) (o : List P2) (hs : List (List P2)) (r : Int) (ad : Addr) (w : World) (h0 : Sent ad w) (h : Plt w a la ah nh o hs) :
    Calls Tryz.prog 27 #[.agg #[.slice a la ca, .slice ah nh ch], .int .i64 r] w fun e W' => ToolAns w.heap.size (rV r && plV o hs) r a la ca o hs e W' ∧ Below w.heap.size w W' := by
  obtain ⟨W, hW, BW, TP, RB⟩ := boxes2 w (.cells #[.slice a la ca, .slice ah nh ch] 32) (.cells #[.pointer none, .int .i64 0, .int .i64 0] 63)
  cases hr : rV r
  · have hK := fun V => toolOk_any r V
    rw [hr] at hK
    clear hr
    obtain ⟨t0, t1⟩ := blk_2 TP
    go_enter Tryz.func27, Tryz.ntmps27
    go_upto_region 1 with fail
    rw [← hW]
    clear hW
    go_wp2_with fail
    refine (hK _).mono ?_
    rintro e w1 ⟨rfl, J⟩
    have zB := BW.size
    have RB1 := keep J RB
    obtain ⟨q0, q1, q2, f0, f1, f2⟩ := blkF3 RB1
    have RB2 := setF3 RB1 (u0 := .pointer none) (u1 := .int .i64 0) (u2 := .int .i64 0)
    obtain ⟨v0, v1, v2, _, _, _⟩ := blkF3 RB2
    go_wp2_with fail
    exact bodyPost_ret (v := .tuple #[.agg #[.pointer none, .int .i64 0, .int .i64 0], .bool false]) (by simp [results, Tryz.results27, go_sem, v0, v1, v2]) rfl ⟨⟨none, 0, 0, rfl, fun h => by cases h⟩, bw_set3 (bw_trans BW J) (by omega) _ _ _⟩
  · have hn := (rV_iff r).1 hr
    obtain ⟨c1, c2⟩ := hn
    have hK := fun V => toolOk_any r V
    rw [hr] at hK
    cases hv : plV o hs
    · obtain ⟨t0, t1⟩ := blk_2 TP
      go_enter Tryz.func27, Tryz.ntmps27
      go_upto_region 1 with fail
      rw [← hW]
      clear hW
      go_wp2_with fail
      refine (hK _).mono ?_
      rintro e w0 ⟨rfl, J0⟩
      replace TP := keep J0 TP
      replace RB := keep J0 RB
      replace BW := bw_trans BW J0
      clear hK J0 t0 t1
      obtain ⟨t0, t1⟩ := blk_2 TP
      have zP := blk_lt TP
      have zR := blk_lt RB
      have zB := BW.size
      go_wp2_with fail
      refine (board_any0 a ah la ca nh ch o hs _ _ zB (h.base BW)).mono ?_
      rw [hv]
      rintro e w1 ⟨q, rfl, J, _⟩
      have RB1 := keep J RB
      obtain ⟨q0, q1, q2, f0, f1, f2⟩ := blkF3 RB1
      have RB2 := setF3 RB1 (u0 := .pointer none) (u1 := .int .i64 0) (u2 := .int .i64 0)
      obtain ⟨v0, v1, v2, _, _, _⟩ := blkF3 RB2
      go_wp2_with fail
      exact bodyPost_ret (v := .tuple #[.agg #[.pointer none, .int .i64 0, .int .i64 0], .bool false]) (by simp [results, Tryz.results27, go_sem, v0, v1, v2]) rfl ⟨⟨none, 0, 0, rfl, fun h => by cases h⟩, bw_set3 (bw_trans BW J) (by omega) _ _ _⟩
    · obtain ⟨t0, t1⟩ := blk_2 TP
      go_enter Tryz.func27, Tryz.ntmps27
      go_upto_region 1 with fail
      rw [← hW]
      clear hW
      go_wp2_with fail
      refine (hK _).mono ?_
      rintro e w0 ⟨rfl, J0⟩
      replace TP := keep J0 TP
      replace RB := keep J0 RB
      replace BW := bw_trans BW J0
      clear hK J0 t0 t1
      obtain ⟨t0, t1⟩ := blk_2 TP
      have zP := blk_lt TP
      have zR := blk_lt RB
      have zB := BW.size
      go_wp2_with fail
      refine (board_any0 a ah la ca nh ch o hs _ _ zB (h.base BW)).mono ?_
      rintro e w1 ⟨q, rfl, J, hR⟩
      obtain ⟨b, xs, rfl, hR, hx⟩ := hR hv
      rw [hv]
      have hG := grid_one r (by omega) (by omega) ad w1 (h0.below (bw_trans BW J))
      go_wp2_with fail
      have zJ1 := J.size
      refine hG.mono ?_
      rintro e w2 ⟨rfl, J2⟩
      have RB1 := keep (bw_trans J J2) RB
      obtain ⟨q0, q1, q2, f0, f1, f2⟩ := blkF3 RB1
      have RB2 := setF3 RB1 (u0 := .pointer (some ⟨b, 0, none⟩)) (u1 := .int .i64 r) (u2 := .int .i64 1)
      obtain ⟨v0, v1, v2, _, _, _⟩ := blkF3 RB2
      go_wp2_with fail
      have hRx : RingL w.heap.size _ (some ⟨b, 0, none⟩) (⟨a, la, ca, o⟩ :: xs) := ringL_set (i := 2) (setRow (setRow RB1 0 (.pointer (some ⟨b, 0, none⟩))) 1 (.int .i64 r)) (by simp) (by omega) (.int .i64 1) (ringL_set (i := 1) (setRow RB1 0 (.pointer (some ⟨b, 0, none⟩))) (by simp) (by omega) (.int .i64 r) (ringL_set (i := 0) RB1 rfl (by omega) (.pointer (some ⟨b, 0, none⟩)) (hR.below J2 (by omega))))
      refine bodyPost_ret (v := .tuple #[.agg #[.pointer (some ⟨b, 0, none⟩), .int .i64 r, .int .i64 1], .bool true]) (by simp [results, Tryz.results27, go_sem, v0, v1, v2]) rfl ⟨⟨_, r, 1, rfl, fun _ => ⟨rfl, rfl, b, xs, rfl, hRx, hx⟩⟩, bw_set3 (bw_trans (bw_trans BW J) J2) (by omega) _ _ _⟩
theorem boardHas_any (b : Nat) (o : RingT) (hs : List RingT) (p : P2) (w : World) (hR : RingL w.heap.size w (some ⟨b, 0, none⟩) (o :: hs)) (hok : ((o :: hs).all fun x => okV x.pts) = true) (hp : ptB p.1 p.2 = true) :
    Calls Tryz.prog 47 #[.pointer (some ⟨b, 0, none⟩), .agg #[.int .i64 p.1, .int .i64 p.2]] w fun e W' => e = .returned (.bool (decide (plI o.pts (hs.map RingT.pts) p = 1))) ∧ Below w.heap.size w W' := by
  obtain ⟨W, hW, BW, T⟩ : ∃ W, W = w.alloc (.cells #[.int .i64 p.1, .int .i64 p.2] 43) ∧ Below w.heap.size w W ∧ W.heap[w.heap.size]? = some (.cells #[.int .i64 p.1, .int .i64 p.2] 43) := ⟨_, rfl, (by repeat (first | exact bw_refl _ | assumption | apply bw_drewN | apply bw_drew | apply bw_alloc | refine bw_set ?_ (by simp) _)), heap_new _ _⟩
  have hcall := boardIn_any b o hs p W ((hR.below BW (Nat.le_refl _)).grow BW.size) hok hp
  obtain ⟨t0, t1⟩ := blk_2 T
  generalize plI o.pts (hs.map RingT.pts) p = u at *
  go_enter Tryz.func47, Tryz.ntmps47
  go_upto_region 1 with fail
  rw [← hW]
  clear hW
  go_wp2_with fail
  refine hcall.mono ?_
  rintro e w1 ⟨rfl, J⟩
  go_wp2_with fail
  go_ret
  exact ⟨by first | rfl | simp, bw_trans BW J⟩
theorem spares_any (q : Option Addr) (n d : Int) (f : Int × Int) (ad : Addr) (w : World) (h0 : Sent ad w) :
    Calls Tryz.prog 48 #[.agg #[.pointer q, .int .i64 n, .int .i64 d], .agg #[.int .i64 f.1, .int .i64 f.2]] w fun e W' => e = .returned (.bool (decide (cmpV n d f.1 f.2 ≤ 0))) ∧ Below w.heap.size w W' := by
  obtain ⟨W, hW, BW, T, F⟩ := boxes2 w (.cells #[.pointer q, .int .i64 n, .int .i64 d] 63) (.cells #[.int .i64 f.1, .int .i64 f.2] 61)
  have hcall := fracCmp_any n d f.1 f.2 ad W (h0.below BW)
  obtain ⟨t0, t1, t2⟩ := blk_3 T
  obtain ⟨f0, f1⟩ := blk_2 F
  generalize cmpV n d f.1 f.2 = u at *
  go_enter Tryz.func48, Tryz.ntmps48
  go_upto_region 1 with fail
  rw [← hW]
  clear hW
  go_wp2_with fail
  refine hcall.mono ?_
  rintro e w1 ⟨rfl, J⟩
  go_wp2_with fail
  go_ret
  exact ⟨by first | rfl | simp, bw_trans BW J⟩
set_option maxRecDepth 100000 in
set_option maxHeartbeats 1000000 in
/-- Where it is known to be a tool on a plate, it fits just if it does. -/
theorem fits_any (b : Nat) (o : RingT) (xs : List RingT) (hs : List (List P2)) (r : Int) (p : P2) (ad : Addr) (w : World) (h0 : Sent ad w) (hR : RingL w.heap.size w (some ⟨b, 0, none⟩) (o :: xs)) (hx : xs.map RingT.pts = hs) (hv : plV o.pts hs = true) (hr : rV r = true) (hp : ptB p.1 p.2 = true) :
    Calls Tryz.prog 29 #[.agg #[.pointer (some ⟨b, 0, none⟩), .int .i64 r, .int .i64 1], .agg #[.int .i64 p.1, .int .i64 p.2]] w fun e W' => e = .returned (.bool (fitI o.pts hs r p)) ∧ Below w.heap.size w W' := by
  obtain ⟨W, hW, BW, T, Z⟩ := boxes2 w (.cells #[.pointer (some ⟨b, 0, none⟩), .int .i64 r, .int .i64 1] 63) (.cells #[.int .i64 p.1, .int .i64 p.2] 43)
  have L := (plV_iff _ _).1 hv
  have hall : ((o :: xs).all fun x => okV x.pts) = true := by
    rw [List.all_eq_true]
    intro x hx'
    rcases List.mem_cons.1 hx' with e | e
    · subst e; exact L.out
    · exact L.ok _ (by rw [← hx]; exact List.mem_map.2 ⟨x, e, rfl⟩)
  have n3 := plE_ne hv
  have n24 := plE_len o.pts hs
  have hfo : ∀ s ∈ plE o.pts hs, OkF (farS p s) := fun s hs => farS_ok (plE_ok hv hs) hp
  have hE : edgR (o :: xs) = plE o.pts hs := by rw [edgR_eq _ _ hs hx, plE_eq hv]
  have hRW := (hR.below BW (Nat.le_refl _)).grow BW.size
  have HH : Hid (∀ w', Below W.heap.size W w' → Calls Tryz.prog 47 #[.pointer (some ⟨b, 0, none⟩), .agg #[.int .i64 p.1, .int .i64 p.2]] w' fun e W' => e = .returned (.bool (decide (plI o.pts hs p = 1))) ∧ Below w'.heap.size w' W') := fun w' J => by
    have := boardHas_any b o xs p w' ((hRW.below J (Nat.le_refl _)).grow J.size) hall hp
    rwa [hx] at this
  have HF : Hid (∀ w', Below W.heap.size W w' → Calls Tryz.prog 49 #[.pointer (some ⟨b, 0, none⟩), .agg #[.int .i64 p.1, .int .i64 p.2]] w' fun e W' => e = .returned (.agg #[.int .i64 (plFI o.pts hs p).1, .int .i64 (plFI o.pts hs p).2]) ∧ Below w'.heap.size w' W') := fun w' J => by
    have := boardFar_any b (o :: xs) p ad w' (h0.below (bw_trans BW J)) (RingL.ringN (Nat.le_refl _) ((hRW.below J (Nat.le_refl _)).grow J.size)) (by rw [hE]; omega) (by rw [hE]; omega) (by rw [hE]; exact hfo)
    rwa [hE] at this
  have HS : Hid (∀ w', Below W.heap.size W w' → Calls Tryz.prog 48 #[.agg #[.pointer (some ⟨b, 0, none⟩), .int .i64 r, .int .i64 1], .agg #[.int .i64 (plFI o.pts hs p).1, .int .i64 (plFI o.pts hs p).2]] w' fun e W' => e = .returned (.bool (spB r (plFI o.pts hs p))) ∧ Below w'.heap.size w' W') := fun w' J => by
    have := spares_any (some ⟨b, 0, none⟩) r 1 (plFI o.pts hs p) ad w' (h0.below (bw_trans BW J))
    rwa [sp_cmp hr (plFI_ok hv hp)] at this
  have HV : Hid (fitI o.pts hs r p = (decide (plI o.pts hs p = 1) && spB r (plFI o.pts hs p))) := rfl
  rw [HV.out]
  clear hfo hE hRW hall hR hv hx n3 n24 L HV
  generalize plFI o.pts hs p = f at *
  generalize decide (plI o.pts hs p = 1) = bi at *
  generalize spB r f = bs at *
  obtain ⟨t0, t1, t2⟩ := reg_3 T
  obtain ⟨z0, z1⟩ := reg_2 Z
  have HH2 : Hid (∀ d os, Calls Tryz.prog 47 #[.pointer (some ⟨b, 0, none⟩), .agg #[.int .i64 p.1, .int .i64 p.2]] (grow (redrawn W d) os) fun e W' => e = .returned (.bool bi) ∧ Below (grow (redrawn W d) os).heap.size (grow (redrawn W d) os) W') := fun d os => HH.out _ (below_regrown W d os)
  have HF2 : Hid (∀ d os, Calls Tryz.prog 49 #[.pointer (some ⟨b, 0, none⟩), .agg #[.int .i64 p.1, .int .i64 p.2]] (grow (redrawn W d) os) fun e W' => e = .returned (.agg #[.int .i64 f.1, .int .i64 f.2]) ∧ Below (grow (redrawn W d) os).heap.size (grow (redrawn W d) os) W') := fun d os => HF.out _ (below_regrown W d os)
  have HS2 : Hid (∀ d os, Calls Tryz.prog 48 #[.agg #[.pointer (some ⟨b, 0, none⟩), .int .i64 r, .int .i64 1], .agg #[.int .i64 f.1, .int .i64 f.2]] (grow (redrawn W d) os) fun e W' => e = .returned (.bool bs) ∧ Below (grow (redrawn W d) os).heap.size (grow (redrawn W d) os) W') := fun d os => HS.out _ (below_regrown W d os)
  clear HH HF HS
  go_enter Tryz.func29, Tryz.ntmps29
  go_upto_region 1 with fail
  rw [← hW]
  clear hW
  cases bi
  · refine wp_region_quiet_below (by kernel_rfl) (by kernel_rfl) ?_
    repeat (first | go_big_quiet_step (first | (go_at_call 47; with_reducible exact Calls.regrown_of (HH2.out _ _))))
    refine wpQuiet_nil ?_
    intro _ hw'
    obtain ⟨⟨dq, osq⟩, hw''⟩ := hw'
    subst hw''
    have J := below_regrown W dq osq
    generalize grow (redrawn W dq) osq = v at J ⊢
    go_wp2_with fail
    go_ret
    exact ⟨by first | rfl | simp, bw_trans BW J⟩
  · refine wp_region_quiet_below (by kernel_rfl) (by kernel_rfl) ?_
    repeat (first | go_big_quiet_step (first | (go_at_call 47; with_reducible exact Calls.regrown_of (HH2.out _ _)) | (go_at_call 49; with_reducible exact Calls.regrown_of (HF2.out _ _)) | (go_at_call 48; with_reducible exact Calls.regrown_of (HS2.out _ _))))
    refine wpQuiet_nil ?_
    intro _ hw'
    obtain ⟨⟨dq, osq⟩, hw''⟩ := hw'
    subst hw''
    have J := below_regrown W dq osq
    generalize grow (redrawn W dq) osq = v at J ⊢
    go_wp2_with fail
    go_ret
    exact ⟨by first | rfl | simp, bw_trans BW J⟩
set_option maxRecDepth 100000 in
set_option maxHeartbeats 2000000 in
theorem toolFits_any (a ah : Option Addr) (la ca nh ch : Nat) (o : List P2) (hs : List (List P2)) (r : Int) (p : P2) (ad : Addr) (w : World) (h0 : Sent ad w) (h : Plt w a la ah nh o hs) :
    Calls Tryz.prog 14 #[.agg #[.slice a la ca, .slice ah nh ch], .int .i64 r, .agg #[.int .i64 p.1, .int .i64 p.2]] w fun e W' => e = .returned (.bool (fitV o hs r p)) ∧ Below w.heap.size w W' := by
  obtain ⟨W, hW, BW, TP, T⟩ := boxes2 w (.cells #[.slice a la ca, .slice ah nh ch] 32) (.cells #[.int .i64 p.1, .int .i64 p.2] 43)
  have hT := toolOn_any a ah la ca nh ch o hs r ad W (h0.below BW) (h.below BW)
  have zB := BW.size
  have hzT := blk_lt T
  obtain ⟨t0, t1⟩ := blk_2 TP
  cases hrv : rV r && plV o hs
  · have e1 : Hid (fitV o hs r p = false) := by change _ = _; unfold fitV; rw [hrv]; rfl
    rw [hrv] at hT
    go_enter Tryz.func14, Tryz.ntmps14
    go_upto_region 1 with fail
    rw [← hW]
    clear hW
    go_wp2_with fail
    refine hT.mono ?_
    rintro e w1 ⟨⟨q, n, d, rfl, -⟩, J⟩
    obtain ⟨W1, hW1, B1, F⟩ : ∃ W1, W1 = w1.alloc (.cells #[.pointer q, .int .i64 n, .int .i64 d] 63) ∧ Below w1.heap.size w1 W1 ∧ W1.heap[w1.heap.size]? = some (.cells #[.pointer q, .int .i64 n, .int .i64 d] 63 (0, 0)) := ⟨_, rfl, (by repeat (first | exact bw_refl _ | assumption | apply bw_drewN | apply bw_drew | apply bw_alloc | refine bw_set ?_ (by simp) _)), heap_new _ _⟩
    go_upto_region 2 with fail
    rw [← hW1]
    clear hW1
    go_wp2_with fail
    go_ret
    exact ⟨by rw [e1.out]; rfl, bw_trans (bw_trans BW J) B1⟩
  rw [hrv] at hT
  rw [Bool.and_eq_true] at hrv
  obtain ⟨hr, hv⟩ := hrv
  cases hp : ptB p.1 p.2
  · have e1 : Hid (fitV o hs r p = false) := by change _ = _; unfold fitV; rw [hr, hv, hp]; rfl
    go_enter Tryz.func14, Tryz.ntmps14
    go_upto_region 1 with fail
    rw [← hW]
    clear hW
    go_wp2_with fail
    refine hT.mono ?_
    rintro e w1 ⟨⟨q, n, d, rfl, -⟩, J⟩
    obtain ⟨W1, hW1, B1, F⟩ : ∃ W1, W1 = w1.alloc (.cells #[.pointer q, .int .i64 n, .int .i64 d] 63) ∧ Below w1.heap.size w1 W1 ∧ W1.heap[w1.heap.size]? = some (.cells #[.pointer q, .int .i64 n, .int .i64 d] 63 (0, 0)) := ⟨_, rfl, (by repeat (first | exact bw_refl _ | assumption | apply bw_drewN | apply bw_drew | apply bw_alloc | refine bw_set ?_ (by simp) _)), heap_new _ _⟩
    have K := bw_trans J B1
    replace T := keep K T
    clear t0 t1
    obtain ⟨t0, t1⟩ := blk_2 T
    go_upto_region 2 with fail
    rw [← hW1]
    clear hW1
    go_wp2_with fail
    refine (pt_raw p _).mono ?_
    rw [hp]
    rintro e w2 ⟨rfl, J2⟩
    go_wp2_with fail
    go_ret
    exact ⟨by rw [e1.out]; rfl, bw_trans (bw_trans BW K) J2⟩
  · have e1 : Hid (fitV o hs r p = fitI o hs r p) := fitV_ok hr hv hp
    go_enter Tryz.func14, Tryz.ntmps14
    go_upto_region 1 with fail
    rw [← hW]
    clear hW
    go_wp2_with fail
    refine hT.mono ?_
    rintro e w1 ⟨⟨q, n, d, rfl, hR0⟩, J⟩
    obtain ⟨rfl, rfl, b, xs, rfl, hR, hx⟩ := hR0 rfl
    clear hR0
    obtain ⟨W1, hW1, B1, F⟩ : ∃ W1, W1 = w1.alloc (.cells #[.pointer (some ⟨b, 0, none⟩), .int .i64 n, .int .i64 1] 63) ∧ Below w1.heap.size w1 W1 ∧ W1.heap[w1.heap.size]? = some (.cells #[.pointer (some ⟨b, 0, none⟩), .int .i64 n, .int .i64 1] 63 (0, 0)) := ⟨_, rfl, (by repeat (first | exact bw_refl _ | assumption | apply bw_drewN | apply bw_drew | apply bw_alloc | refine bw_set ?_ (by simp) _)), heap_new _ _⟩
    have K := bw_trans J B1
    have zJ := J.size
    have zB1 := B1.size
    replace T := keep K T
    clear t0 t1
    obtain ⟨t0, t1⟩ := blk_2 T
    go_upto_region 2 with fail
    rw [← hW1]
    clear hW1
    go_wp2_with fail
    refine (pt_raw p _).mono ?_
    rw [hp]
    rintro e w2 ⟨rfl, J2⟩
    have zJ2 := J2.size
    have K2 := bw_trans (bw_trans BW K) J2
    replace T := keep J2 T
    replace F := keep J2 F
    clear t0 t1
    obtain ⟨t0, t1⟩ := blk_2 T
    obtain ⟨f0, f1, f2⟩ := blk_3 F
    have hF := fits_any b ⟨a, la, ca, o⟩ xs hs n p ad w2 (h0.below K2) (((hR.below B1 (by omega)).below J2 (by omega)).grow (by omega)) hx hv hr hp
    go_wp2_with fail
    refine hF.mono ?_
    rintro e w3 ⟨rfl, J3⟩
    go_wp2_with fail
    go_ret
    exact ⟨by rw [e1.out]; rfl, bw_trans K2 J3⟩
end Go.Proofs.YtkncejcpeejkkaaGreatDoor
namespace Go.Proofs.YtkncejcpeejkkaaGreatDoor
open Go.RowKit Go.Shelf Go.Sort
attribute [local go_sem] Oper.semAt_some

/-- The tool does not cut an edge from there to there. -/
def clB (n d : Int) (a b : P2) (s : P2 × P2) : Bool := decide (cmpV n d (apartV a.1 a.2 b.1 b.2 s.1.1 s.1.2 s.2.1 s.2.2).1 (apartV a.1 a.2 b.1 b.2 s.1.1 s.1.2 s.2.1 s.2.2).2 ≤ 0)
set_option maxRecDepth 100000 in
set_option maxHeartbeats 4000000 in
theorem clears_in (N : Nat) (hn : 12 ≤ N) (b : Nat) (rs : List RingT) (n d : Int) (p q : P2) (ad : Addr) (w : World) (h0 : Sent ad w) (hR : RingN w.heap.size w (some ⟨b, 0, none⟩) rs) :
    CallsIn Fence.wide N Tryz.prog 51 #[.agg #[.pointer (some ⟨b, 0, none⟩), .int .i64 n, .int .i64 d], .agg #[.int .i64 p.1, .int .i64 p.2], .agg #[.int .i64 q.1, .int .i64 q.2]] w fun e W' => e = .returned (.bool ((edgR rs).all (clB n d p q))) ∧ Below w.heap.size w W' := by
  have h1 : 1 ≤ N := by omega
  have hmx : Tryz.prog.follows .mixedOrders = true := by kernel_rfl
  refine callsIn_of_wp_marks Tryz.func51 rfl trivial ?_ rfl
  simp only [Tryz.ntmps51, List.size_toArray, List.length_cons, List.length_nil, Nat.reduceAdd, Nat.reduceSub, Array.replicate_succ, Array.replicate_zero, List.push_toArray, List.append_toArray, List.nil_append, List.cons_append]
  gi_wp2_with (refine ⟨trivial, ?_⟩; gi_at_call 70; refine (ringEdges_in (N - 1) _ _).mono ?_; rintro e w' ⟨rfl, rfl⟩)
  have Q0 := ((((((Lies.new' w (w.heap.size) (by simp) #[.pointer (some ⟨b, 0, none⟩), .int .i64 n, .int .i64 d] 63).alloc (.cells #[.int .i64 p.1, .int .i64 p.2] 43)).alloc (.cells #[.int .i64 q.1, .int .i64 q.2] 43)).alloc (.cells #[.bool false] 4)).alloc (.cells #[.int .i64 p.1, .int .i64 p.2, .int .i64 q.1, .int .i64 q.2] 75)).alloc (.cells #[.pointer (some ⟨b, 0, none⟩)] 95))
  have Q3 := (((Lies.new' (((w.alloc (.cells #[.pointer (some ⟨b, 0, none⟩), .int .i64 n, .int .i64 d] 63)).alloc (.cells #[.int .i64 p.1, .int .i64 p.2] 43)).alloc (.cells #[.int .i64 q.1, .int .i64 q.2] 43)) (w.heap.size + 1 + 1 + 1) (by simp) #[.bool false] 4).alloc (.cells #[.int .i64 p.1, .int .i64 p.2, .int .i64 q.1, .int .i64 q.2] 75)).alloc (.cells #[.pointer (some ⟨b, 0, none⟩)] 95))
  have Q4 := ((Lies.new' ((((w.alloc (.cells #[.pointer (some ⟨b, 0, none⟩), .int .i64 n, .int .i64 d] 63)).alloc (.cells #[.int .i64 p.1, .int .i64 p.2] 43)).alloc (.cells #[.int .i64 q.1, .int .i64 q.2] 43)).alloc (.cells #[.bool false] 4)) (w.heap.size + 1 + 1 + 1 + 1) (by simp) #[.int .i64 p.1, .int .i64 p.2, .int .i64 q.1, .int .i64 q.2] 75).alloc (.cells #[.pointer (some ⟨b, 0, none⟩)] 95))
  have Q5 := (Lies.new' (((((w.alloc (.cells #[.pointer (some ⟨b, 0, none⟩), .int .i64 n, .int .i64 d] 63)).alloc (.cells #[.int .i64 p.1, .int .i64 p.2] 43)).alloc (.cells #[.int .i64 q.1, .int .i64 q.2] 43)).alloc (.cells #[.bool false] 4)).alloc (.cells #[.int .i64 p.1, .int .i64 p.2, .int .i64 q.1, .int .i64 q.2] 75)) (w.heap.size + 1 + 1 + 1 + 1 + 1) (by simp) #[.pointer (some ⟨b, 0, none⟩)] 95)
  have hB0 : Below w.heap.size w ((((((w.alloc (.cells #[.pointer (some ⟨b, 0, none⟩), .int .i64 n, .int .i64 d] 63)).alloc (.cells #[.int .i64 p.1, .int .i64 p.2] 43)).alloc (.cells #[.int .i64 q.1, .int .i64 q.2] 43)).alloc (.cells #[.bool false] 4)).alloc (.cells #[.int .i64 p.1, .int .i64 p.2, .int .i64 q.1, .int .i64 q.2] 75)).alloc (.cells #[.pointer (some ⟨b, 0, none⟩)] 95)) := (by repeat (first | exact bw_refl _ | assumption | apply bw_drewN | apply bw_drew | apply bw_alloc | refine bw_set ?_ (by simp) _))
  have hsz : (((((((w.alloc (.cells #[.pointer (some ⟨b, 0, none⟩), .int .i64 n, .int .i64 d] 63)).alloc (.cells #[.int .i64 p.1, .int .i64 p.2] 43)).alloc (.cells #[.int .i64 q.1, .int .i64 q.2] 43)).alloc (.cells #[.bool false] 4)).alloc (.cells #[.int .i64 p.1, .int .i64 p.2, .int .i64 q.1, .int .i64 q.2] 75)).alloc (.cells #[.pointer (some ⟨b, 0, none⟩)] 95))).heap.size = w.heap.size + 6 := by simp
  obtain ⟨W0, hW0⟩ : ∃ W0, ((((((w.alloc (.cells #[.pointer (some ⟨b, 0, none⟩), .int .i64 n, .int .i64 d] 63)).alloc (.cells #[.int .i64 p.1, .int .i64 p.2] 43)).alloc (.cells #[.int .i64 q.1, .int .i64 q.2] 43)).alloc (.cells #[.bool false] 4)).alloc (.cells #[.int .i64 p.1, .int .i64 p.2, .int .i64 q.1, .int .i64 q.2] 75)).alloc (.cells #[.pointer (some ⟨b, 0, none⟩)] 95)) = W0 := ⟨_, rfl⟩
  rw [hW0] at Q0 Q3 Q4 Q5 hB0 hsz ⊢
  clear hW0
  have hseq := ringE_seqS (N - 1) (by omega) (w.heap.size + 1 + 1 + 1 + 1 + 1) w.heap.size (some ⟨b, 0, none⟩) rs W0 Q5.c1 (by omega) (hR.keep hB0)
  refine wpIn_rangeOS rfl h1 (gf := 86) (lb := #[.pointer (some ⟨w.heap.size + 1 + 1 + 1 + 1 + 1, 0, none⟩)]) rfl trivial (enters_of Tryz.func86 (by kernel_rfl) rfl)
    hseq KT_t (KT_b (by omega)) (Below.refl _ _) (fun _ => rfl)
    (fun pre W => ((∀ x ∈ pre, clB n d p q x = true) ∧ Lies w.heap.size #[.pointer (some ⟨b, 0, none⟩), .int .i64 n, .int .i64 d] 63 W ∧ Lies (w.heap.size + 1 + 1 + 1) #[.bool false] 4 W ∧ Lies (w.heap.size + 1 + 1 + 1 + 1) #[.int .i64 p.1, .int .i64 p.2, .int .i64 q.1, .int .i64 q.2] 75 W) ∧ Below w.heap.size w W)
    (fun c pre W => ((c = .ret ∧ ∃ x ∈ pre, clB n d p q x = false) ∧ Lies (w.heap.size + 1 + 1 + 1) #[.bool false] 4 W) ∧ Below w.heap.size w W)
    (OwnFrom.and (OwnFrom.and (ownFrom_pure _ _) (OwnFrom.and (lies_from _ _ _ _) (OwnFrom.and (lies_from _ _ _ _) (lies_from _ _ _ _)))) (ownFrom_below (Nat.le_refl _) (by omega)))
    (fun c => OwnFrom.and (OwnFrom.and (ownFrom_pure _ _) (lies_from _ _ _ _)) (ownFrom_below (Nat.le_refl _) (by omega)))
    ⟨⟨by simp, Q0, Q3, Q4⟩, hB0⟩
    (fun x a' W => ∃ Bx, w.heap.size + 1 + 1 + 1 + 1 < Bx ∧ Lies Bx #[.int .i64 x.1.1, .int .i64 x.1.2, .int .i64 x.2.1, .int .i64 x.2.2] 75 W ∧ a' = { tmps := #[.agg #[.pointer (some ⟨b, 0, none⟩), .int .i64 n, .int .i64 d], .agg #[.int .i64 p.1, .int .i64 p.2], .agg #[.int .i64 q.1, .int .i64 q.2], .pointer (some ⟨w.heap.size, 0, none⟩), .pointer (some ⟨w.heap.size + 1, 0, none⟩), .pointer (some ⟨w.heap.size + 1 + 1, 0, none⟩), .pointer (some ⟨w.heap.size + 1 + 1 + 1, 0, none⟩), .pointer (some ⟨w.heap.size + 1 + 1 + 1 + 1, 0, none⟩), .pointer (some ⟨Bx, 0, none⟩), .agg #[.int .i64 p.1, .int .i64 p.2], .agg #[.int .i64 q.1, .int .i64 q.2], .agg #[.int .i64 p.1, .int .i64 p.2, .int .i64 q.1, .int .i64 q.2], .pointer (some ⟨w.heap.size, 0, none⟩), .pointer (some ⟨b, 0, none⟩), .pointer (some ⟨b, 0, none⟩), .pointer (some ⟨b, 0, none⟩), .func (.func 86) #[] #[.pointer (some ⟨w.heap.size + 1 + 1 + 1 + 1 + 1, 0, none⟩)], .agg #[.int .i64 x.1.1, .int .i64 x.1.2, .int .i64 x.2.1, .int .i64 x.2.2], undef, undef, undef, undef, undef, undef], defers := [] })
    (fun x a' _ X Y row hs hg hr => by obtain ⟨Bx, e1, e2, e3⟩ := hs; exact ⟨Bx, e1, lies_own (β := Unit) Bx _ _ () X Y row e2 hg (fun r e => (hr r e).2), e3⟩)
    ?assign ?body ?done ?stop
  case assign =>
    rintro l pre x W K ⟨⟨hp, M0, M3, M4⟩, hB1⟩ hK
    unfold segE
    have hB3 : Below W.heap.size W (W.alloc (.cells #[.int .i64 x.1.1, .int .i64 x.1.2, .int .i64 x.2.1, .int .i64 x.2.2] 75)) := (by repeat (first | exact bw_refl _ | assumption | apply bw_drewN | apply bw_drew | apply bw_alloc | refine bw_set ?_ (by simp) _))
    gi_wp2
    exact hK _ _ ((KeepsOthers.alloc _ _).from _) (KT.of_below hB3 hB1.size) ⟨⟨hp, M0.alloc _, M3.alloc _, M4.alloc _⟩, hB1.alloc hB1.size _⟩ ⟨W.heap.size, M4.lt, Lies.new W _ _, rfl⟩
  case body =>
    rintro l pre x a' W hl2 ⟨⟨hp, M0, M3, M4⟩, hB1⟩ ⟨Bx, hBx, bX, rfl⟩ hlt
    have hzW := hB1.size
    have hsW := h0.below hB1
    obtain ⟨bv, hbv⟩ : ∃ bv, clB n d p q x = bv := ⟨_, rfl⟩
    obtain ⟨f, hf⟩ : ∃ f, apartV p.1 p.2 q.1 q.2 x.1.1 x.1.2 x.2.1 x.2.2 = f := ⟨_, rfl⟩
    have HA : Hid (∀ d' os, Calls Tryz.prog 71 #[.agg #[.int .i64 p.1, .int .i64 p.2, .int .i64 q.1, .int .i64 q.2], .agg #[.int .i64 x.1.1, .int .i64 x.1.2, .int .i64 x.2.1, .int .i64 x.2.2]] (grow (redrawn W d') os) fun e w' => e = .returned (.agg #[.int .i64 f.1, .int .i64 f.2]) ∧ Below (grow (redrawn W d') os).heap.size (grow (redrawn W d') os) w') := fun d' os => by
      have := segApart_any p.1 p.2 q.1 q.2 x.1.1 x.1.2 x.2.1 x.2.2 ad _ (hsW.below (below_regrown W d' os))
      rwa [hf] at this
    have HS : Hid (∀ d' os, Calls Tryz.prog 48 #[.agg #[.pointer (some ⟨b, 0, none⟩), .int .i64 n, .int .i64 d], .agg #[.int .i64 f.1, .int .i64 f.2]] (grow (redrawn W d') os) fun e W' => e = .returned (.bool bv) ∧ Below (grow (redrawn W d') os).heap.size (grow (redrawn W d') os) W') := fun d' os => by
      have := spares_any (some ⟨b, 0, none⟩) n d f ad _ (hsW.below (below_regrown W d' os))
      rw [← hbv]; unfold clB; rw [hf]; exact this
    obtain ⟨m0, m1, m2⟩ := reg_3 (show W.heap[w.heap.size]? = _ from M0)
    obtain ⟨y0, y1, y2, y3⟩ := reg_4 (show W.heap[w.heap.size + 1 + 1 + 1 + 1]? = _ from M4)
    obtain ⟨x0, x1, x2, x3⟩ := reg_4 (show W.heap[Bx]? = _ from bX)
    have HB : Hid (clB n d p q x = bv) := hbv
    clear hf hbv
    cases bv
    · gi_wp2
      refine wpIn_round_quiet hmx (by kernel_rfl) (by kernel_rfl) ?_
      repeat (first | go_big_quiet_step (first | (go_at_call 71; with_reducible exact Calls.regrown_of (HA.out _ _)) | (go_at_call 48; with_reducible exact Calls.regrown_of (HS.out _ _))))
      refine wpQuiet_nil ?_
      intro _ hw'
      obtain ⟨⟨dq, osq⟩, hw''⟩ := hw'
      subst hw''
      have J := below_regrown W dq osq
      generalize grow (redrawn W dq) osq = w1 at J ⊢
      have M3' := M3.below J
      have c3 := M3'.c1
      have f3 := M3'.f1
      gi_wp2
      exact ⟨((KeepsOthers.of_below J).trans (KeepsOthers.setCell _ _ _)).from _, ⟨⟨rfl, x, List.mem_append.2 (.inr (by simp)), HB.out⟩, M3'.set1 _⟩, (bw_trans hB1 J).setCell (p := ⟨w.heap.size + 1 + 1 + 1, 0, none⟩) (by simp; omega) _⟩
    · gi_wp2
      refine wpIn_round_quiet hmx (by kernel_rfl) (by kernel_rfl) ?_
      repeat (first | go_big_quiet_step (first | (go_at_call 71; with_reducible exact Calls.regrown_of (HA.out _ _)) | (go_at_call 48; with_reducible exact Calls.regrown_of (HS.out _ _))))
      refine wpQuiet_nil ?_
      intro _ hw'
      obtain ⟨⟨dq, osq⟩, hw''⟩ := hw'
      subst hw''
      have J := below_regrown W dq osq
      generalize grow (redrawn W dq) osq = w1 at J ⊢
      gi_wp2
      exact ⟨(KeepsOthers.of_below J).from _, KT.of_below J hzW, ⟨fun z hz => (List.mem_append.1 hz).elim (hp z) (fun e => by simp at e; rw [e]; exact HB.out), M0.below J, M3.below J, M4.below J⟩, bw_trans hB1 J⟩
  case done =>
    rintro D W hD ⟨⟨hp, M0, M3, M4⟩, hB1⟩ hK
    have cR := M3.c1
    have fR := M3.f1
    gi_wp2
    have hK' := (KeepsOthers.setCell W ⟨w.heap.size + 1 + 1 + 1, 0, none⟩ (.bool true)).same D _ hK rfl
    refine ⟨by simp, .inl ⟨_, _, rfl, run_takeDeferred hK', ?_⟩⟩
    have hc5 := ((M3.set1 (.bool true)).put (.deferred none) hK' rfl).c1
    refine ⟨.bool true, ?_, ?_, (hB1.setCell (p := ⟨w.heap.size + 1 + 1 + 1, 0, none⟩) (by simp; omega) _).trans (belowK_b (w := w) (Nat.le_refl _) _ D _ _ (by omega) hK' rfl rfl)⟩
    · simp [results, Tryz.f51, go_sem, hc5]
    · rw [List.all_eq_true.2 hp]
  case stop =>
    rintro D c pre W hD hpre ⟨⟨⟨rfl, x, hx, hbx⟩, M3⟩, hB1⟩ hK
    gi_wp2
    refine ⟨by simp, .inl ⟨_, _, rfl, run_takeDeferred hK, ?_⟩⟩
    have hc5 := (M3.put (.deferred none) hK rfl).c1
    refine ⟨.bool false, ?_, ?_, hB1.trans (belowK_b (w := w) (Nat.le_refl _) _ D _ _ (by omega) hK rfl rfl)⟩
    · simp [results, Tryz.f51, go_sem, hc5]
    · have : (edgR rs).all (clB n d p q) = false := by
        rw [Bool.eq_false_iff]
        intro hc
        have := List.all_eq_true.1 hc x (hpre.subset hx)
        rw [hbx] at this; cases this
      rw [this]
theorem clears_any (b : Nat) (rs : List RingT) (n d : Int) (p q : P2) (ad : Addr) (w : World) (h0 : Sent ad w) (hR : RingN w.heap.size w (some ⟨b, 0, none⟩) rs) :
    Calls Tryz.prog 51 #[.agg #[.pointer (some ⟨b, 0, none⟩), .int .i64 n, .int .i64 d], .agg #[.int .i64 p.1, .int .i64 p.2], .agg #[.int .i64 q.1, .int .i64 q.2]] w fun e W' => e = .returned (.bool ((edgR rs).all (clB n d p q))) ∧ Below w.heap.size w W' :=
  callsIn_wide.1 (clears_in 12 (Nat.le_refl _) b rs n d p q ad w h0 hR)
end Go.Proofs.YtkncejcpeejkkaaGreatDoor
namespace Go.Proofs.YtkncejcpeejkkaaGreatDoor
open Go.RowKit Go.Sort

/-- It may go, where all is ok and both are beside each other. -/
def mayI (o : List P2) (hs : List (List P2)) (r : Int) (p q : P2) : Bool := fitI o hs r p && fitI o hs r q && (plE o hs).all (clB r 1 p q)
/-- It may go, where the tool is one on a plate. -/
def mayT (o : List P2) (hs : List (List P2)) (r : Int) (p q : P2) : Bool := ptB p.1 p.2 && ptB q.1 q.2 && decide (dt p.1 p.2 q.1 q.2 q.1 q.2 = 1) && mayI o hs r p q
/-- It may go. -/
def mayV (o : List P2) (hs : List (List P2)) (r : Int) (p q : P2) : Bool := rV r && plV o hs && ptB p.1 p.2 && ptB q.1 q.2 && decide (dt p.1 p.2 q.1 q.2 q.1 q.2 = 1) && mayI o hs r p q
theorem mayV_of {o : List P2} {hs : List (List P2)} {r : Int} {p q : P2} (hr : rV r = true) (hv : plV o hs = true) : mayV o hs r p q = mayT o hs r p q := by
  unfold mayV mayT; rw [hr, hv]; simp
set_option maxRecDepth 100000 in
set_option maxHeartbeats 4000000 in
theorem may_any (a : Option Addr) (la ca : Nat) (b : Nat) (xs : List RingT) (o : List P2) (hs : List (List P2)) (n : Int) (p q : P2) (ad : Addr) (w : World) (h0 : Sent ad w) (hR : RingL w.heap.size w (some ⟨b, 0, none⟩) (⟨a, la, ca, o⟩ :: xs)) (hx : xs.map RingT.pts = hs) (hv : plV o hs = true) (hr : rV n = true) :
    Calls Tryz.prog 30 #[.agg #[.pointer (some ⟨b, 0, none⟩), .int .i64 n, .int .i64 1], .agg #[.int .i64 p.1, .int .i64 p.2], .agg #[.int .i64 q.1, .int .i64 q.2]] w fun e W' => e = .returned (.bool (mayT o hs n p q)) ∧ Below w.heap.size w W' := by
  obtain ⟨W, hW, K, F, T, U⟩ := boxes3 w (.cells #[.pointer (some ⟨b, 0, none⟩), .int .i64 n, .int .i64 1] 63) (.cells #[.int .i64 p.1, .int .i64 p.2] 43) (.cells #[.int .i64 q.1, .int .i64 q.2] 43)
  have zB := K.size
  replace hR := hR.below K (Nat.le_refl _)
  go_enter Tryz.func30, Tryz.ntmps30
  go_upto_region 1 with fail
  rw [← hW]
  clear hW
  have n24 := plE_len o hs
  cases hp : ptB p.1 p.2
  · have e1 : Hid (mayT o hs n p q = false) := by change _ = _; unfold mayT; rw [hp]; rfl
    obtain ⟨t0, t1⟩ := blk_2 T
    obtain ⟨u0, u1⟩ := blk_2 U
    obtain ⟨f0, f1, f2⟩ := blk_3 F
    go_wp2_with fail
    refine (pt_raw p _).mono ?_
    rw [hp]
    rintro e v2 ⟨rfl, J⟩
    have zz2 := J.size
    replace T := keep J T
    replace U := keep J U
    replace F := keep J F
    replace K := bw_trans K J
    replace hR := hR.below J (by omega)
    clear t0 t1 u0 u1 f0 f1 f2 J
    go_wp2_with fail
    go_ret
    exact ⟨by rw [e1.out]; rfl, K⟩
  obtain ⟨t0, t1⟩ := blk_2 T
  obtain ⟨u0, u1⟩ := blk_2 U
  obtain ⟨f0, f1, f2⟩ := blk_3 F
  go_wp2_with fail
  refine (pt_raw p _).mono ?_
  rw [hp]
  rintro e v3 ⟨rfl, J⟩
  have zz3 := J.size
  replace T := keep J T
  replace U := keep J U
  replace F := keep J F
  replace K := bw_trans K J
  replace hR := hR.below J (by omega)
  clear t0 t1 u0 u1 f0 f1 f2 J
  cases hq : ptB q.1 q.2
  · have e1 : Hid (mayT o hs n p q = false) := by change _ = _; unfold mayT; rw [hp, hq]; rfl
    obtain ⟨t0, t1⟩ := blk_2 T
    obtain ⟨u0, u1⟩ := blk_2 U
    obtain ⟨f0, f1, f2⟩ := blk_3 F
    go_wp2_with fail
    refine (pt_raw q _).mono ?_
    rw [hq]
    rintro e v4 ⟨rfl, J⟩
    have zz4 := J.size
    replace T := keep J T
    replace U := keep J U
    replace F := keep J F
    replace K := bw_trans K J
    replace hR := hR.below J (by omega)
    clear t0 t1 u0 u1 f0 f1 f2 J
    go_wp2_with fail
    go_ret
    exact ⟨by rw [e1.out]; rfl, K⟩
  obtain ⟨t0, t1⟩ := blk_2 T
  obtain ⟨u0, u1⟩ := blk_2 U
  obtain ⟨f0, f1, f2⟩ := blk_3 F
  go_wp2_with fail
  refine (pt_raw q _).mono ?_
  rw [hq]
  rintro e v5 ⟨rfl, J⟩
  have zz5 := J.size
  replace T := keep J T
  replace U := keep J U
  replace F := keep J F
  replace K := bw_trans K J
  replace hR := hR.below J (by omega)
  clear t0 t1 u0 u1 f0 f1 f2 J
  by_cases hd : dt p.1 p.2 q.1 q.2 q.1 q.2 = 1
  case neg =>
    have e1 : Hid (mayT o hs n p q = false) := by change _ = _; unfold mayT; rw [hp, hq, decide_eq_false hd]; rfl
    have hd' : (dt p.1 p.2 q.1 q.2 q.1 q.2 == 1) = false := by simpa using hd
    have hsq := fun V => square_ok p.1 p.2 q.1 q.2 V hp hq
    generalize dt p.1 p.2 q.1 q.2 q.1 q.2 = sq at *
    clear hd
    obtain ⟨t0, t1⟩ := blk_2 T
    obtain ⟨u0, u1⟩ := blk_2 U
    obtain ⟨f0, f1, f2⟩ := blk_3 F
    go_wp2_with fail
    refine (hsq _).mono ?_
    rintro e v6 ⟨rfl, J⟩
    have zz6 := J.size
    replace T := keep J T
    replace U := keep J U
    replace F := keep J F
    replace K := bw_trans K J
    replace hR := hR.below J (by omega)
    clear t0 t1 u0 u1 f0 f1 f2 J
    go_wp2_with fail
    go_ret
    exact ⟨by rw [e1.out]; rfl, K⟩
  have e0 : Hid (mayT o hs n p q = mayI o hs n p q) := by change _ = _; unfold mayT; rw [hp, hq, decide_eq_true hd]; rfl
  have hsq := fun V => square_ok p.1 p.2 q.1 q.2 V hp hq
  rw [hd] at hsq
  clear hd
  obtain ⟨t0, t1⟩ := blk_2 T
  obtain ⟨u0, u1⟩ := blk_2 U
  obtain ⟨f0, f1, f2⟩ := blk_3 F
  go_wp2_with fail
  refine (hsq _).mono ?_
  rintro e v7 ⟨rfl, J⟩
  have zz7 := J.size
  replace T := keep J T
  replace U := keep J U
  replace F := keep J F
  replace K := bw_trans K J
  replace hR := hR.below J (by omega)
  clear t0 t1 u0 u1 f0 f1 f2 J
  cases hfp : fitI o hs n p
  · have e1 : Hid (mayT o hs n p q = false) := by change _ = _; rw [e0.out]; unfold mayI; rw [hfp]; rfl
    obtain ⟨t0, t1⟩ := blk_2 T
    obtain ⟨u0, u1⟩ := blk_2 U
    obtain ⟨f0, f1, f2⟩ := blk_3 F
    go_wp2_with fail
    refine (fits_any b ⟨a, la, ca, o⟩ xs hs n p ad _ (h0.below K) (hR.grow (by omega)) hx hv hr hp).mono ?_
    rw [hfp]
    rintro e v8 ⟨rfl, J⟩
    have zz8 := J.size
    replace T := keep J T
    replace U := keep J U
    replace F := keep J F
    replace K := bw_trans K J
    replace hR := hR.below J (by omega)
    clear t0 t1 u0 u1 f0 f1 f2 J
    go_wp2_with fail
    go_ret
    exact ⟨by rw [e1.out]; rfl, K⟩
  obtain ⟨t0, t1⟩ := blk_2 T
  obtain ⟨u0, u1⟩ := blk_2 U
  obtain ⟨f0, f1, f2⟩ := blk_3 F
  go_wp2_with fail
  refine (fits_any b ⟨a, la, ca, o⟩ xs hs n p ad _ (h0.below K) (hR.grow (by omega)) hx hv hr hp).mono ?_
  rw [hfp]
  rintro e v9 ⟨rfl, J⟩
  have zz9 := J.size
  replace T := keep J T
  replace U := keep J U
  replace F := keep J F
  replace K := bw_trans K J
  replace hR := hR.below J (by omega)
  clear t0 t1 u0 u1 f0 f1 f2 J
  cases hfq : fitI o hs n q
  · have e1 : Hid (mayT o hs n p q = false) := by change _ = _; rw [e0.out]; unfold mayI; rw [hfp, hfq]; rfl
    obtain ⟨t0, t1⟩ := blk_2 T
    obtain ⟨u0, u1⟩ := blk_2 U
    obtain ⟨f0, f1, f2⟩ := blk_3 F
    go_wp2_with fail
    refine (fits_any b ⟨a, la, ca, o⟩ xs hs n q ad _ (h0.below K) (hR.grow (by omega)) hx hv hr hq).mono ?_
    rw [hfq]
    rintro e v10 ⟨rfl, J⟩
    have zz10 := J.size
    replace T := keep J T
    replace U := keep J U
    replace F := keep J F
    replace K := bw_trans K J
    replace hR := hR.below J (by omega)
    clear t0 t1 u0 u1 f0 f1 f2 J
    go_wp2_with fail
    go_ret
    exact ⟨by rw [e1.out]; rfl, K⟩
  obtain ⟨t0, t1⟩ := blk_2 T
  obtain ⟨u0, u1⟩ := blk_2 U
  obtain ⟨f0, f1, f2⟩ := blk_3 F
  go_wp2_with fail
  refine (fits_any b ⟨a, la, ca, o⟩ xs hs n q ad _ (h0.below K) (hR.grow (by omega)) hx hv hr hq).mono ?_
  rw [hfq]
  rintro e v11 ⟨rfl, J⟩
  have zz11 := J.size
  replace T := keep J T
  replace U := keep J U
  replace F := keep J F
  replace K := bw_trans K J
  replace hR := hR.below J (by omega)
  clear t0 t1 u0 u1 f0 f1 f2 J
  have hE : edgR (⟨a, la, ca, o⟩ :: xs) = plE o hs := by rw [edgR_eq _ _ hs hx, plE_eq hv]
  have hC := fun V (hV : Sent ad V) hRN => clears_any b (⟨a, la, ca, o⟩ :: xs) n 1 p q ad V hV hRN
  rw [hE] at hC
  have e1 : Hid (mayT o hs n p q = (plE o hs).all (clB n 1 p q)) := by change _ = _; rw [e0.out]; unfold mayI; rw [hfp, hfq]; rfl
  generalize (plE o hs).all (clB n 1 p q) = bl at *
  obtain ⟨t0, t1⟩ := blk_2 T
  obtain ⟨u0, u1⟩ := blk_2 U
  obtain ⟨f0, f1, f2⟩ := blk_3 F
  go_wp2_with fail
  refine (hC _ (h0.below K) (RingL.ringN (Nat.le_refl _) (hR.grow (by omega)))).mono ?_
  rintro e v12 ⟨rfl, J⟩
  have zz12 := J.size
  replace T := keep J T
  replace U := keep J U
  replace F := keep J F
  replace K := bw_trans K J
  replace hR := hR.below J (by omega)
  clear t0 t1 u0 u1 f0 f1 f2 J
  go_wp2_with fail
  go_ret
  exact ⟨by rw [e1.out]; rfl, K⟩
set_option maxRecDepth 100000 in
set_option maxHeartbeats 4000000 in
theorem toolMay_any (a ah : Option Addr) (la ca nh ch : Nat) (o : List P2) (hs : List (List P2)) (r : Int) (p q : P2) (ad : Addr) (w : World) (h0 : Sent ad w) (h : Plt w a la ah nh o hs) :
    Calls Tryz.prog 15 #[.agg #[.slice a la ca, .slice ah nh ch], .int .i64 r, .agg #[.int .i64 p.1, .int .i64 p.2], .agg #[.int .i64 q.1, .int .i64 q.2]] w fun e W' => e = .returned (.bool (mayV o hs r p q)) ∧ Below w.heap.size w W' := by
  obtain ⟨W, hW, BW, TP, T, U⟩ := boxes3 w (.cells #[.slice a la ca, .slice ah nh ch] 32) (.cells #[.int .i64 p.1, .int .i64 p.2] 43) (.cells #[.int .i64 q.1, .int .i64 q.2] 43)
  have hT := toolOn_any a ah la ca nh ch o hs r ad W (h0.below BW) (h.below BW)
  have zB := BW.size
  obtain ⟨t0, t1⟩ := blk_2 TP
  cases hrv : rV r && plV o hs
  · have e1 : Hid (mayV o hs r p q = false) := by change _ = _; unfold mayV; rw [hrv]; rfl
    rw [hrv] at hT
    go_enter Tryz.func15, Tryz.ntmps15
    go_upto_region 1 with fail
    rw [← hW]
    clear hW
    go_wp2_with fail
    refine hT.mono ?_
    rintro e w1 ⟨⟨qq, n, d, rfl, -⟩, J⟩
    obtain ⟨W1, hW1, B1, F⟩ : ∃ W1, W1 = w1.alloc (.cells #[.pointer qq, .int .i64 n, .int .i64 d] 63) ∧ Below w1.heap.size w1 W1 ∧ W1.heap[w1.heap.size]? = some (.cells #[.pointer qq, .int .i64 n, .int .i64 d] 63 (0, 0)) := ⟨_, rfl, (by repeat (first | exact bw_refl _ | assumption | apply bw_drewN | apply bw_drew | apply bw_alloc | refine bw_set ?_ (by simp) _)), heap_new _ _⟩
    go_upto_region 2 with fail
    rw [← hW1]
    clear hW1
    go_wp2_with fail
    go_ret
    exact ⟨by rw [e1.out]; rfl, bw_trans (bw_trans BW J) B1⟩
  rw [hrv] at hT
  rw [Bool.and_eq_true] at hrv
  obtain ⟨hr, hv⟩ := hrv
  rw [mayV_of hr hv]
  go_enter Tryz.func15, Tryz.ntmps15
  go_upto_region 1 with fail
  rw [← hW]
  clear hW
  go_wp2_with fail
  refine hT.mono ?_
  rintro e w1 ⟨⟨qq, n, d, rfl, hR0⟩, J⟩
  obtain ⟨rfl, rfl, b, xs, rfl, hR, hx⟩ := hR0 rfl
  clear hR0
  obtain ⟨W1, hW1, B1, F⟩ : ∃ W1, W1 = w1.alloc (.cells #[.pointer (some ⟨b, 0, none⟩), .int .i64 n, .int .i64 1] 63) ∧ Below w1.heap.size w1 W1 ∧ W1.heap[w1.heap.size]? = some (.cells #[.pointer (some ⟨b, 0, none⟩), .int .i64 n, .int .i64 1] 63 (0, 0)) := ⟨_, rfl, (by repeat (first | exact bw_refl _ | assumption | apply bw_drewN | apply bw_drew | apply bw_alloc | refine bw_set ?_ (by simp) _)), heap_new _ _⟩
  have K := bw_trans J B1
  have zJ := J.size
  have zB1 := B1.size
  replace T := keep K T
  replace U := keep K U
  replace hR := hR.below B1 (by omega)
  replace K := bw_trans BW K
  clear t0 t1 J B1 hT
  go_upto_region 2 with fail
  rw [← hW1]
  clear hW1
  have hM := may_any a la ca b xs o hs n p q ad W1 (h0.below K) (hR.grow (by omega)) hx hv hr
  obtain ⟨bm, hbm⟩ : ∃ bm, mayT o hs n p q = bm := ⟨_, rfl⟩
  rw [hbm] at hM
  have HM : Hid (mayT o hs n p q = bm) := hbm
  clear hbm
  obtain ⟨t0, t1⟩ := blk_2 T
  obtain ⟨u0, u1⟩ := blk_2 U
  obtain ⟨f0, f1, f2⟩ := blk_3 F
  go_wp2_with fail
  refine hM.mono ?_
  rintro e w2 ⟨rfl, J⟩
  go_wp2_with fail
  go_ret
  exact ⟨by rw [HM.out]; rfl, bw_trans K J⟩
end Go.Proofs.YtkncejcpeejkkaaGreatDoor
namespace Go.Proofs.YtkncejcpeejkkaaGreatDoor
open Go.RowKit Go.Sort

/-- A point is nearer to a segment than a tool cuts. -/
def nearI (s : P2 × P2) (r : Int) (p : P2) : Bool :=
  if dt s.1.1 s.1.2 s.2.1 s.2.2 p.1 p.2 ≤ 0 then decide (dt s.1.1 s.1.2 p.1 p.2 p.1 p.2 < r)
  else if dt s.1.1 s.1.2 s.2.1 s.2.2 s.2.1 s.2.2 ≤ dt s.1.1 s.1.2 s.2.1 s.2.2 p.1 p.2 then decide (dt s.2.1 s.2.2 p.1 p.2 p.1 p.2 < r)
  else decide (crs s.1.1 s.1.2 s.2.1 s.2.2 p.1 p.2 * crs s.1.1 s.1.2 s.2.1 s.2.2 p.1 p.2 < r * dt s.1.1 s.1.2 s.2.1 s.2.2 s.2.1 s.2.2)
theorem near_raw (s : P2 × P2) (r : Int) (p : P2) : nearI s r p = decide ((farR s.1.1 s.1.2 s.2.1 s.2.2 p.1 p.2).1 < r * (farR s.1.1 s.1.2 s.2.1 s.2.2 p.1 p.2).2) := by
  unfold nearI farR
  split
  · simp
  · split
    · rw [if_pos (by have := dt_back s.1.1 s.1.2 s.2.1 s.2.2 p.1 p.2; omega)]; simp
    · rw [if_neg (by have := dt_back s.1.1 s.1.2 s.2.1 s.2.2 p.1 p.2; omega)]
theorem near_far {s : P2 × P2} {r : Int} {p : P2} (hs : sgP s.1 s.2 = true) (hp : ptB p.1 p.2 = true) : nearI s r p = !spB r (farS p s) := by
  rw [near_raw, farS_of hs hp]
  have hd := (sg_parts hs).2.2
  have e := far_raw hs hp
  have h1 := farR_pos p.1 p.2 hd
  have h2 := far_pos hs hp
  unfold spB
  generalize far s.1.1 s.1.2 s.2.1 s.2.2 p.1 p.2 = f at *
  generalize farR s.1.1 s.1.2 s.2.1 s.2.2 p.1 p.2 = q at *
  rw [← decide_not, decide_eq_decide]
  constructor
  · intro h hc
    have a := raw_le e h1.2 h2.2 (m := q.1) (b := q.2) (Int.le_refl _)
    have b1 := Int.mul_le_mul_of_nonneg_right hc (show 0 ≤ q.2 by omega)
    have b2 : q.1 * f.2 < r * q.2 * f.2 := Int.mul_lt_mul_of_pos_right h h2.2
    grind
  · intro h
    have b1 : f.1 < r * f.2 := by omega
    have b2 : f.1 * q.2 < r * f.2 * q.2 := Int.mul_lt_mul_of_pos_right b1 h1.2
    rw [e] at b2
    refine Int.lt_of_mul_lt_mul_right (a := f.2) ?_ (by omega)
    grind
theorem sp_le {r : Int} {f g : Int × Int} (hr : rV r = true) (hf : OkF f) (hg : OkF g) (h : LeF f g) (hs : spB r f = true) : spB r g = true := by
  unfold spB at *
  rw [decide_eq_true_eq] at *
  have o1 : OkF (r, 1) := ok_whole hr
  have := LeF.trans o1 hf hg (f := (r, 1)) (by unfold LeF; dsimp only; omega) h
  unfold LeF at this
  dsimp only at this
  omega
/-- Where it fits no edge is nearer, and the other way about. -/
theorem fit_all {o : List P2} {hs : List (List P2)} {r : Int} {p : P2} (hr : rV r = true) (hv : plV o hs = true) (hp : ptB p.1 p.2 = true) : ((plE o hs).all fun s => !nearI s r p) = spB r (plFI o hs p) := by
  have hL := plFI_least hv (p := p) hp
  have ho := plFI_ok hv (p := p) hp
  rw [Bool.eq_iff_iff, List.all_eq_true]
  constructor
  · intro h
    obtain ⟨s, hs', e⟩ := List.mem_map.1 hL.mem
    have := h s hs'
    rw [near_far (plE_ok hv hs') hp, Bool.not_not] at this
    rwa [← e]
  · intro h s hs'
    rw [near_far (plE_ok hv hs') hp, Bool.not_not]
    exact sp_le hr ho (farS_ok (plE_ok hv hs') hp) (hL.le _ (List.mem_map.2 ⟨s, hs', rfl⟩)) h
theorem fitI_all {o : List P2} {hs : List (List P2)} {r : Int} {p : P2} (hr : rV r = true) (hv : plV o hs = true) (hp : ptB p.1 p.2 = true) : fitI o hs r p = (((plE o hs).all fun s => !nearI s r p) && decide (plI o hs p = 1)) := by
  rw [fit_all hr hv hp]; unfold fitI; exact Bool.and_comm _ _
end Go.Proofs.YtkncejcpeejkkaaGreatDoor
namespace Go.Proofs.YtkncejcpeejkkaaGreatDoor
open Go.RowKit Go.Sort

/-- An edge is in the way: as the specification says. -/
def hitI (p q : P2) (r : Int) (s : P2 × P2) : Bool := meetP p q s.1 s.2 || nearI (p, q) r s.1 || nearI (p, q) r s.2
theorem beside_sg {p q : P2} (hp : ptB p.1 p.2 = true) (hq : ptB q.1 q.2 = true) (hd : dt p.1 p.2 q.1 q.2 q.1 q.2 = 1) : sgP p q = true := by
  unfold sgP
  rw [sgB_iff]
  rw [ptB_iff] at hp hq
  refine ⟨hp, hq, fun ⟨h1, h2⟩ => ?_⟩
  unfold dt at hd
  rw [h1, h2] at hd
  simp at hd
theorem sp_least {r : Int} {m a b c d : Int × Int} (hr : rV r = true) (ha : OkF a) (hb : OkF b) (hc : OkF c) (hd : OkF d) (h : Least m a b c d) : spB r m = (spB r a && spB r b && spB r c && spB r d) := by
  have hm := h.ok ha hb hc hd
  obtain ⟨hmem, l1, l2, l3, l4⟩ := h
  rw [Bool.eq_iff_iff]
  simp only [Bool.and_eq_true]
  constructor
  · intro h
    exact ⟨⟨⟨sp_le hr hm ha l1 h, sp_le hr hm hb l2 h⟩, sp_le hr hm hc l3 h⟩, sp_le hr hm hd l4 h⟩
  · rintro ⟨⟨⟨h1, h2⟩, h3⟩, h4⟩
    rcases hmem with e | e | e | e <;> rw [e] <;> assumption
/-- What the program asks of an edge is what the specification asks, where the tool fits at both ends. -/
theorem cl_hit {r : Int} {p q : P2} {s : P2 × P2} (hr : rV r = true) (hw : sgP p q = true) (hs : sgP s.1 s.2 = true) (h1 : spB r (farS p s) = true) (h2 : spB r (farS q s) = true) : clB r 1 p q s = !hitI p q r s := by
  have hp := (sgP_pt hw).1
  have hq := (sgP_pt hw).2
  have ha := (sgP_pt hs).1
  have hb := (sgP_pt hs).2
  have e0 : apartV p.1 p.2 q.1 q.2 s.1.1 s.1.2 s.2.1 s.2.2 = apart p.1 p.2 q.1 q.2 s.1.1 s.1.2 s.2.1 s.2.2 := by
    unfold apartV; rw [show sgB p.1 p.2 q.1 q.2 = true from hw, show sgB s.1.1 s.1.2 s.2.1 s.2.2 = true from hs]; rfl
  have hok : OkF (apart p.1 p.2 q.1 q.2 s.1.1 s.1.2 s.2.1 s.2.2) := apart_ok hw hs
  unfold clB
  rw [e0, sp_cmp hr hok]
  unfold hitI
  cases hm : meetP p q s.1 s.2
  · have L := apart_least hw hs hm
    obtain ⟨o1, o2, o3, o4⟩ := four_ok hw hs
    rw [sp_least hr o1 o2 o3 o4 L]
    have n1 := near_far (s := (p, q)) (r := r) hw ha
    have n2 := near_far (s := (p, q)) (r := r) hw hb
    rw [farS_of (s := (p, q)) hw ha] at n1
    rw [farS_of (s := (p, q)) hw hb] at n2
    rw [farS_of hs hp] at h1
    rw [farS_of hs hq] at h2
    rw [n1, n2]
    dsimp only at *
    rw [h1, h2]
    cases spB r (far p.1 p.2 q.1 q.2 s.1.1 s.1.2) <;> cases spB r (far p.1 p.2 q.1 q.2 s.2.1 s.2.2) <;> rfl
  · rw [apart_yes hm]
    rw [rV_iff] at hr
    unfold spB
    rw [decide_eq_false (by dsimp only; omega)]
    rfl
theorem fit_far {o : List P2} {hs : List (List P2)} {r : Int} {p : P2} (hr : rV r = true) (hv : plV o hs = true) (hp : ptB p.1 p.2 = true) (h : fitI o hs r p = true) {s : P2 × P2} (hs' : s ∈ plE o hs) : spB r (farS p s) = true := by
  unfold fitI at h
  rw [Bool.and_eq_true] at h
  exact sp_le hr (plFI_ok hv hp) (farS_ok (plE_ok hv hs') hp) ((plFI_least hv hp).le _ (List.mem_map.2 ⟨s, hs', rfl⟩)) h.2
theorem mayI_hit {o : List P2} {hs : List (List P2)} {r : Int} {p q : P2} (hr : rV r = true) (hv : plV o hs = true) (hp : ptB p.1 p.2 = true) (hq : ptB q.1 q.2 = true) (hd : dt p.1 p.2 q.1 q.2 q.1 q.2 = 1) : mayI o hs r p q = (fitI o hs r p && fitI o hs r q && (plE o hs).all fun s => !hitI p q r s) := by
  unfold mayI
  cases h1 : fitI o hs r p
  · rfl
  cases h2 : fitI o hs r q
  · rfl
  have hw := beside_sg hp hq hd
  simp only [Bool.true_and]
  rw [Bool.eq_iff_iff, List.all_eq_true, List.all_eq_true]
  refine ⟨fun h s hs' => ?_, fun h s hs' => ?_⟩
  · rw [← cl_hit hr hw (plE_ok hv hs') (fit_far hr hv hp h1 hs') (fit_far hr hv hq h2 hs')]; exact h s hs'
  · rw [cl_hit hr hw (plE_ok hv hs') (fit_far hr hv hp h1 hs') (fit_far hr hv hq h2 hs')]; exact h s hs'
end Go.Proofs.YtkncejcpeejkkaaGreatDoor
namespace Go.Proofs.YtkncejcpeejkkaaGreatDoor
open Go.RowKit Go.Sort

/-- The greatest up to k that fits; 0, if none does. -/
def mostF (F : Int → Bool) : Nat → Int
  | 0 => 0
  | k + 1 => if F ((k : Int) + 1) then (k : Int) + 1 else mostF F k
theorem mostF_bd (F : Int → Bool) (k : Nat) : 0 ≤ mostF F k ∧ mostF F k ≤ k := by
  induction k with
  | zero => exact ⟨Int.le_refl _, Int.le_refl _⟩
  | succ k ih => unfold mostF; split <;> omega
theorem mostF_ge {F : Int → Bool} {k : Nat} {r : Int} (h1 : 1 ≤ r) (h2 : r ≤ k) (hF : F r = true) : r ≤ mostF F k := by
  induction k with
  | zero => omega
  | succ k ih =>
    unfold mostF
    by_cases e : r = (k : Int) + 1
    · subst e; rw [if_pos hF]; exact Int.le_refl _
    · have := ih (by omega)
      split <;> omega
theorem mostF_fit {F : Int → Bool} {k : Nat} (h : 1 ≤ mostF F k) : F (mostF F k) = true := by
  induction k with
  | zero => unfold mostF at h; omega
  | succ k ih =>
    unfold mostF at h ⊢
    split
    · rename_i hF; exact hF
    · rename_i hF; rw [if_neg hF] at h; exact ih h
theorem mostF_none {F : Int → Bool} {k : Nat} (h : ∀ r : Int, 1 ≤ r → r ≤ (k : Int) → F r = false) : mostF F k = 0 := by
  have b := mostF_bd F k
  by_cases h1 : 1 ≤ mostF F k
  · have := mostF_fit h1
    rw [h _ h1 b.2] at this; cases this
  · omega
theorem mostF_min {F : Int → Bool} {k : Nat} {m : Int} (hm : 0 ≤ m) (h : ∀ r : Int, 1 ≤ r → r ≤ (k : Int) → F r = decide (r ≤ m)) : mostF F k = min m k := by
  have b := mostF_bd F k
  have up : mostF F k ≤ m := by
    by_cases h1 : 1 ≤ mostF F k
    · have := mostF_fit h1
      rw [h _ h1 b.2] at this; simpa using this
    · omega
  have dn : min m k ≤ mostF F k := by
    by_cases h1 : 1 ≤ min m (k : Int)
    · exact mostF_ge h1 (by omega) (by rw [h _ h1 (by omega)]; simp; omega)
    · omega
  omega
theorem sp_le' {r : Int} {f g : Int × Int} (hr : rV r = true) (hf : OkF f) (hg : OkF g) (h : LeF f g) (hs : spB r f = true) : spB r g = true := by
  unfold spB at *
  rw [decide_eq_true_eq] at *
  have o1 : OkF (r, 1) := ok_whole hr
  have := LeF.trans o1 hf hg (f := (r, 1)) (by unfold LeF; dsimp only; omega) h
  unfold LeF at this
  dsimp only at this
  omega
/-- A smaller tool fits where a larger one does. -/
theorem sp_less {r q : Int} {f : Int × Int} (hf : OkF f) (h : q ≤ r) (hs : spB r f = true) : spB q f = true := by
  unfold spB at *
  rw [decide_eq_true_eq] at *
  have := Int.mul_le_mul_of_nonneg_right h (show 0 ≤ f.2 by have := hf.pos; omega)
  omega
theorem fitV_less {o : List P2} {hs : List (List P2)} {r q : Int} {p : P2} (h1 : 1 ≤ q) (h2 : q ≤ r) (h : fitV o hs r p = true) : fitV o hs q p = true := by
  have hr : rV r = true := by unfold fitV at h; cases e : rV r <;> rw [e] at h <;> simp at h ⊢
  have hv : plV o hs = true := by unfold fitV at h; rw [hr] at h; cases e : plV o hs <;> rw [e] at h <;> simp at h ⊢
  have hp : ptB p.1 p.2 = true := by unfold fitV at h; rw [hr, hv] at h; cases e : ptB p.1 p.2 <;> rw [e] at h <;> simp at h ⊢
  have hq : rV q = true := by rw [rV_iff] at hr ⊢; omega
  rw [fitV_ok hr hv hp] at h
  rw [fitV_ok hq hv hp]
  unfold fitI at h ⊢
  rw [Bool.and_eq_true] at h ⊢
  exact ⟨h.1, sp_less (plFI_ok hv hp) h2 h.2⟩
/-- Without holes it fits, too. -/
theorem fitV_bare {o : List P2} {hs : List (List P2)} {r : Int} {p : P2} (h : fitV o hs r p = true) : fitV o [] r p = true := by
  have hr : rV r = true := by unfold fitV at h; cases e : rV r <;> rw [e] at h <;> simp at h ⊢
  have hv : plV o hs = true := by unfold fitV at h; rw [hr] at h; cases e : plV o hs <;> rw [e] at h <;> simp at h ⊢
  have hp : ptB p.1 p.2 = true := by unfold fitV at h; rw [hr, hv] at h; cases e : ptB p.1 p.2 <;> rw [e] at h <;> simp at h ⊢
  have L := (plV_iff _ _).1 hv
  have hv0 : plV o [] = true := okV_plV L.out
  rw [fitV_ok hr hv hp] at h
  rw [fitV_ok hr hv0 hp]
  unfold fitI at h ⊢
  rw [Bool.and_eq_true, decide_eq_true_eq] at h ⊢
  have hi := (plI_one hv p).1 h.1
  refine ⟨(plI_one hv0 p).2 ⟨hi.1, fun x hx => by simp at hx⟩, ?_⟩
  have m0 := plFI_least hv0 (p := p) hp
  obtain ⟨s, hs', e⟩ := List.mem_map.1 m0.mem
  have hin : s ∈ plE o hs := by rw [plE_eq hv]; rw [plE_eq hv0] at hs'; simp at hs'; exact List.mem_append_left _ hs'
  exact sp_le' hr (plFI_ok hv hp) (plFI_ok hv0 hp) (by rw [← e]; exact (plFI_least hv hp).le _ (List.mem_map.2 ⟨s, hin, rfl⟩)) h.2
end Go.Proofs.YtkncejcpeejkkaaGreatDoor
namespace Go.Proofs.YtkncejcpeejkkaaGreatDoor
open Go.RowKit Go.Sort

theorem nearI_back {p q : P2} {r : Int} {a : P2} (hw : sgP p q = true) (ha : ptB a.1 a.2 = true) : nearI (q, p) r a = nearI (p, q) r a := by
  have hw' : sgP q p = true := by rw [sgP_back]; exact hw
  rw [near_far (s := (q, p)) hw' ha, near_far (s := (p, q)) hw ha, farS_of (s := (q, p)) hw' ha, farS_of (s := (p, q)) hw ha]
  dsimp only
  rw [far_back _ _ (sg_parts hw).2.2]
theorem hitI_back {p q : P2} {r : Int} {s : P2 × P2} (hw : sgP p q = true) (hs : sgP s.1 s.2 = true) : hitI q p r s = hitI p q r s := by
  unfold hitI
  rw [meetP_back1, nearI_back hw (sgP_pt hs).1, nearI_back hw (sgP_pt hs).2]
theorem dt_beside (p q : P2) : dt q.1 q.2 p.1 p.2 p.1 p.2 = dt p.1 p.2 q.1 q.2 q.1 q.2 := by
  unfold dt
  have e1 : (p.1 - q.1) * (p.1 - q.1) = (q.1 - p.1) * (q.1 - p.1) := by rw [← Int.neg_sub q.1 p.1, Int.neg_mul_neg]
  have e2 : (p.2 - q.2) * (p.2 - q.2) = (q.2 - p.2) * (q.2 - p.2) := by rw [← Int.neg_sub q.2 p.2, Int.neg_mul_neg]
  rw [e1, e2]
theorem mayI_back {o : List P2} {hs : List (List P2)} {r : Int} {p q : P2} (hr : rV r = true) (hv : plV o hs = true) (hp : ptB p.1 p.2 = true) (hq : ptB q.1 q.2 = true) (hd : dt p.1 p.2 q.1 q.2 q.1 q.2 = 1) : mayI o hs r q p = mayI o hs r p q := by
  rw [mayI_hit hr hv hp hq hd, mayI_hit hr hv hq hp ((dt_beside p q).trans hd)]
  have hw := beside_sg hp hq hd
  have e : ((plE o hs).all fun s => !hitI q p r s) = ((plE o hs).all fun s => !hitI p q r s) := by
    rw [Bool.eq_iff_iff, List.all_eq_true, List.all_eq_true]
    refine ⟨fun h s hs' => ?_, fun h s hs' => ?_⟩
    · rw [← hitI_back hw (plE_ok hv hs')]; exact h s hs'
    · rw [hitI_back hw (plE_ok hv hs')]; exact h s hs'
  rw [e]
  cases fitI o hs r p <;> cases fitI o hs r q <;> rfl
/-- Where it goes it goes back. -/
theorem mayV_back (o : List P2) (hs : List (List P2)) (r : Int) (p q : P2) : mayV o hs r q p = mayV o hs r p q := by
  unfold mayV
  cases hr : rV r
  · rfl
  cases hv : plV o hs
  · rfl
  cases hp : ptB p.1 p.2
  · cases ptB q.1 q.2 <;> rfl
  cases hq : ptB q.1 q.2
  · rfl
  rw [dt_beside]
  by_cases hd : dt p.1 p.2 q.1 q.2 q.1 q.2 = 1
  · rw [mayI_back hr hv hp hq hd]
  · rw [decide_eq_false hd]; rfl
theorem mayV_parts {o : List P2} {hs : List (List P2)} {r : Int} {p q : P2} (h : mayV o hs r p q = true) : rV r = true ∧ plV o hs = true ∧ ptB p.1 p.2 = true ∧ ptB q.1 q.2 = true ∧ dt p.1 p.2 q.1 q.2 q.1 q.2 = 1 ∧ mayI o hs r p q = true := by
  unfold mayV at h
  simp only [Bool.and_eq_true, decide_eq_true_eq] at h
  obtain ⟨⟨⟨⟨⟨h1, h2⟩, h3⟩, h4⟩, h5⟩, h6⟩ := h
  exact ⟨h1, h2, h3, h4, h5, h6⟩
theorem mayV_fit {o : List P2} {hs : List (List P2)} {r : Int} {p q : P2} (h : mayV o hs r p q = true) : fitV o hs r p = true ∧ fitV o hs r q = true := by
  obtain ⟨hr, hv, hp, hq, hd, hm⟩ := mayV_parts h
  unfold mayI at hm
  simp only [Bool.and_eq_true] at hm
  exact ⟨by rw [fitV_ok hr hv hp]; exact hm.1.1, by rw [fitV_ok hr hv hq]; exact hm.1.2⟩
/-- A smaller tool goes where a larger one does. -/
theorem mayV_less {o : List P2} {hs : List (List P2)} {r k : Int} {p q : P2} (h1 : 1 ≤ k) (h2 : k ≤ r) (h : mayV o hs r p q = true) : mayV o hs k p q = true := by
  obtain ⟨hr, hv, hp, hq, hd, hm⟩ := mayV_parts h
  have hf := mayV_fit h
  have hk : rV k = true := by rw [rV_iff] at hr ⊢; omega
  have f1 := fitV_less h1 h2 hf.1
  have f2 := fitV_less h1 h2 hf.2
  rw [fitV_ok hk hv hp] at f1
  rw [fitV_ok hk hv hq] at f2
  have hw := beside_sg hp hq hd
  unfold mayI at hm
  simp only [Bool.and_eq_true] at hm
  have ha := hm.2
  rw [List.all_eq_true] at ha
  unfold mayV
  rw [hk, hv, hp, hq, decide_eq_true hd]
  unfold mayI
  rw [f1, f2]
  simp only [Bool.true_and]
  rw [List.all_eq_true]
  intro s hs'
  have h9 := ha s hs'
  have hs2 := plE_ok hv hs'
  have e0 : apartV p.1 p.2 q.1 q.2 s.1.1 s.1.2 s.2.1 s.2.2 = apart p.1 p.2 q.1 q.2 s.1.1 s.1.2 s.2.1 s.2.2 := by
    unfold apartV; rw [show sgB p.1 p.2 q.1 q.2 = true from hw, show sgB s.1.1 s.1.2 s.2.1 s.2.2 = true from hs2]; rfl
  have hok : OkF (apart p.1 p.2 q.1 q.2 s.1.1 s.1.2 s.2.1 s.2.2) := apart_ok hw hs2
  unfold clB at h9 ⊢
  rw [e0] at h9 ⊢
  rw [sp_cmp hr hok] at h9
  rw [sp_cmp hk hok]
  exact sp_less hok h2 h9
end Go.Proofs.YtkncejcpeejkkaaGreatDoor
namespace Go.Proofs.YtkncejcpeejkkaaGreatDoor
open Go.RowKit Go.Sort

/-- It may go along, where the tool is one on a plate. -/
def pathT (o : List P2) (hs : List (List P2)) (r : Int) (l : List P2) : Bool := decide (1 ≤ l.length ∧ l.length ≤ 400) && ptB (ptAt l 0).1 (ptAt l 0).2 && fitI o hs r (ptAt l 0) && (List.range (l.length - 1)).all fun i => mayT o hs r (ptAt l i) (ptAt l (i + 1))
/-- It may go along. -/
def pathV (o : List P2) (hs : List (List P2)) (r : Int) (l : List P2) : Bool := rV r && plV o hs && pathT o hs r l
theorem pathT_iff {o : List P2} {hs : List (List P2)} {r : Int} {l : List P2} : pathT o hs r l = true ↔ (1 ≤ l.length ∧ l.length ≤ 400) ∧ ptB (ptAt l 0).1 (ptAt l 0).2 = true ∧ fitI o hs r (ptAt l 0) = true ∧ ∀ i, i + 1 < l.length → mayT o hs r (ptAt l i) (ptAt l (i + 1)) = true := by
  unfold pathT
  simp only [Bool.and_eq_true, decide_eq_true_eq, List.all_eq_true, List.mem_range]
  constructor
  · rintro ⟨⟨⟨h1, h2⟩, h3⟩, h4⟩; exact ⟨h1, h2, h3, fun i hi => h4 i (by omega)⟩
  · rintro ⟨h1, h2, h3, h4⟩; exact ⟨⟨⟨h1, h2⟩, h3⟩, fun i hi => h4 i (by omega)⟩
theorem pathT_len {o : List P2} {hs : List (List P2)} {r : Int} {l : List P2} (h : ¬ (1 ≤ l.length ∧ l.length ≤ 400)) : pathT o hs r l = false := by
  rw [Bool.eq_false_iff]; intro hc; exact h (pathT_iff.1 hc).1
theorem pathT_pt {o : List P2} {hs : List (List P2)} {r : Int} {l : List P2} (h : ptB (ptAt l 0).1 (ptAt l 0).2 = false) : pathT o hs r l = false := by
  rw [Bool.eq_false_iff]; intro hc; rw [(pathT_iff.1 hc).2.1] at h; cases h
theorem pathT_fit {o : List P2} {hs : List (List P2)} {r : Int} {l : List P2} (h : fitI o hs r (ptAt l 0) = false) : pathT o hs r l = false := by
  rw [Bool.eq_false_iff]; intro hc; rw [(pathT_iff.1 hc).2.2.1] at h; cases h
theorem pathT_step {o : List P2} {hs : List (List P2)} {r : Int} {l : List P2} {i : Nat} (hi : i + 1 < l.length) (h : mayT o hs r (ptAt l i) (ptAt l (i + 1)) = false) : pathT o hs r l = false := by
  rw [Bool.eq_false_iff]; intro hc; rw [(pathT_iff.1 hc).2.2.2 i hi] at h; cases h
theorem pathV_of {o : List P2} {hs : List (List P2)} {r : Int} {l : List P2} (hr : rV r = true) (hv : plV o hs = true) : pathV o hs r l = pathT o hs r l := by unfold pathV; rw [hr, hv]; rfl
theorem mayT_parts {o : List P2} {hs : List (List P2)} {r : Int} {p q : P2} (h : mayT o hs r p q = true) : ptB p.1 p.2 = true ∧ ptB q.1 q.2 = true ∧ dt p.1 p.2 q.1 q.2 q.1 q.2 = 1 ∧ mayI o hs r p q = true := by
  unfold mayT at h
  simp only [Bool.and_eq_true, decide_eq_true_eq] at h
  obtain ⟨⟨⟨h1, h2⟩, h3⟩, h4⟩ := h
  exact ⟨h1, h2, h3, h4⟩
/-- All points of a path are of the grid. -/
theorem pathT_ok {o : List P2} {hs : List (List P2)} {r : Int} {l : List P2} (h : pathT o hs r l = true) {i : Nat} (hi : i < l.length) : ptB (ptAt l i).1 (ptAt l i).2 = true := by
  obtain ⟨_, h0, _, hs'⟩ := pathT_iff.1 h
  cases i with
  | zero => exact h0
  | succ k => exact (mayT_parts (hs' k hi)).2.1
theorem mayI_fits {o : List P2} {hs : List (List P2)} {r : Int} {p q : P2} (h : mayI o hs r p q = true) : fitI o hs r p = true ∧ fitI o hs r q = true := by
  unfold mayI at h; simp only [Bool.and_eq_true] at h; exact h.1
theorem pathT_fits {o : List P2} {hs : List (List P2)} {r : Int} {l : List P2} (h : pathT o hs r l = true) {i : Nat} (hi : i < l.length) : fitI o hs r (ptAt l i) = true := by
  obtain ⟨_, _, h0, hs'⟩ := pathT_iff.1 h
  cases i with
  | zero => exact h0
  | succ k => exact (mayI_fits (mayT_parts (hs' k hi)).2.2.2).2
theorem ptAt_rev {l : List P2} {i : Nat} (h : i < l.length) : ptAt l.reverse i = ptAt l (l.length - 1 - i) := by
  unfold ptAt; rw [List.getElem?_reverse h]
theorem mayT_back {o : List P2} {hs : List (List P2)} {r : Int} {p q : P2} (hr : rV r = true) (hv : plV o hs = true) : mayT o hs r q p = mayT o hs r p q := by
  rw [← mayV_of hr hv, ← mayV_of hr hv]; exact mayV_back o hs r p q
theorem pathT_rev1 {o : List P2} {hs : List (List P2)} {r : Int} {l : List P2} (hr : rV r = true) (hv : plV o hs = true) (h : pathT o hs r l = true) : pathT o hs r l.reverse = true := by
  have hl := (pathT_iff.1 h).1
  rw [pathT_iff, List.length_reverse]
  refine ⟨hl, ?_, ?_, fun i hi => ?_⟩
  · rw [ptAt_rev (by omega)]; exact pathT_ok h (by omega)
  · rw [ptAt_rev (by omega)]; exact pathT_fits h (by omega)
  · rw [ptAt_rev (by omega), ptAt_rev (by omega)]
    have := (pathT_iff.1 h).2.2.2 (l.length - 1 - (i + 1)) (by omega)
    rw [show l.length - 1 - (i + 1) + 1 = l.length - 1 - i by omega] at this
    rw [mayT_back hr hv]; exact this
/-- The other way about it is a path just if it is one. -/
theorem pathV_rev (o : List P2) (hs : List (List P2)) (r : Int) (l : List P2) : pathV o hs r l.reverse = pathV o hs r l := by
  cases hr : rV r
  · unfold pathV; rw [hr]; rfl
  cases hv : plV o hs
  · unfold pathV; rw [hr, hv]; rfl
  rw [pathV_of hr hv, pathV_of hr hv, Bool.eq_iff_iff]
  refine ⟨fun h => ?_, pathT_rev1 hr hv⟩
  have := pathT_rev1 hr hv h
  rwa [List.reverse_reverse] at this
theorem pathV_parts {o : List P2} {hs : List (List P2)} {r : Int} {l : List P2} (h : pathV o hs r l = true) : rV r = true ∧ plV o hs = true ∧ pathT o hs r l = true := by
  unfold pathV at h; simp only [Bool.and_eq_true] at h; exact ⟨h.1.1, h.1.2, h.2⟩
/-- A smaller tool goes along, too. -/
theorem pathV_less {o : List P2} {hs : List (List P2)} {r k : Int} {l : List P2} (h1 : 1 ≤ k) (h2 : k ≤ r) (h : pathV o hs r l = true) : pathV o hs k l = true := by
  obtain ⟨hr, hv, ht⟩ := pathV_parts h
  have hk : rV k = true := by rw [rV_iff] at hr ⊢; omega
  obtain ⟨hl, h0, hf, hst⟩ := pathT_iff.1 ht
  rw [pathV_of hk hv, pathT_iff]
  refine ⟨hl, h0, ?_, fun i hi => ?_⟩
  · have f : fitV o hs r (ptAt l 0) = true := by rw [fitV_ok hr hv h0]; exact hf
    have := fitV_less h1 h2 f
    rwa [fitV_ok hk hv h0] at this
  · have m := hst i hi
    rw [← mayV_of hr hv] at m
    have := mayV_less h1 h2 m
    rwa [mayV_of hk hv] at this
/-- A path by its steps, each asked of the whole plate. -/
theorem pathV_steps {o : List P2} {hs : List (List P2)} {r : Int} {l : List P2} (hl : 1 ≤ l.length) (h4 : l.length ≤ 400) : pathV o hs r l = true ↔ fitV o hs r (ptAt l 0) = true ∧ ∀ i, i + 1 < l.length → mayV o hs r (ptAt l i) (ptAt l (i + 1)) = true := by
  constructor
  · intro h
    obtain ⟨hr, hv, ht⟩ := pathV_parts h
    obtain ⟨_, h0, hf, hst⟩ := pathT_iff.1 ht
    exact ⟨by rw [fitV_ok hr hv h0]; exact hf, fun i hi => by rw [mayV_of hr hv]; exact hst i hi⟩
  · rintro ⟨h0, hst⟩
    have h0' := h0
    unfold fitV at h0'
    simp only [Bool.and_eq_true] at h0'
    obtain ⟨⟨⟨hr, hv⟩, hp⟩, hf⟩ := h0'
    rw [pathV_of hr hv, pathT_iff]
    exact ⟨⟨hl, h4⟩, hp, hf, fun i hi => by rw [← mayV_of hr hv]; exact hst i hi⟩
end Go.Proofs.YtkncejcpeejkkaaGreatDoor
namespace Go.Proofs.YtkncejcpeejkkaaGreatDoor
open Go.RowKit Go.Sort

set_option maxRecDepth 100000 in
set_option maxHeartbeats 4000000 in
theorem pathOk_any (a ah : Option Addr) (la ca nh ch : Nat) (o : List P2) (hs : List (List P2)) (r : Int) (ap : Option Addr) (np cp : Nat) (l : List P2) (hcp : np ≤ cp) (ad : Addr) (w : World) (h0 : Sent ad w) (h : Plt w a la ah nh o hs) (hP : Pts w.heap.size w ap np l) :
    Calls Tryz.prog 10 #[.agg #[.slice a la ca, .slice ah nh ch], .int .i64 r, .slice ap np cp] w fun e W' => e = .returned (.bool (pathV o hs r l)) ∧ Below w.heap.size w W' := by
  obtain ⟨W, hW, BW, TP⟩ : ∃ W, W = w.alloc (.cells #[.slice a la ca, .slice ah nh ch] 32) ∧ Below w.heap.size w W ∧ W.heap[w.heap.size]? = some (.cells #[.slice a la ca, .slice ah nh ch] 32 (0, 0)) := ⟨_, rfl, (by repeat (first | exact bw_refl _ | assumption | apply bw_drewN | apply bw_drew | apply bw_alloc | refine bw_set ?_ (by simp) _)), heap_new _ _⟩
  have hT := toolOn_any a ah la ca nh ch o hs r ad W (h0.below BW) (h.below BW)
  have zB := BW.size
  obtain ⟨t0, t1⟩ := blk_2 TP
  cases hrv : rV r && plV o hs
  · have e1 : Hid (pathV o hs r l = false) := by change _ = _; unfold pathV; rw [hrv]; rfl
    rw [hrv] at hT
    go_enter Tryz.func10, Tryz.ntmps10
    go_upto_region 1 with fail
    rw [← hW]
    clear hW
    go_wp2_with fail
    refine hT.mono ?_
    rintro e w1 ⟨⟨qq, n, d, rfl, -⟩, J⟩
    obtain ⟨W1, hW1, B1, F⟩ : ∃ W1, W1 = w1.alloc (.cells #[.pointer qq, .int .i64 n, .int .i64 d] 63) ∧ Below w1.heap.size w1 W1 ∧ W1.heap[w1.heap.size]? = some (.cells #[.pointer qq, .int .i64 n, .int .i64 d] 63 (0, 0)) := ⟨_, rfl, (by repeat (first | exact bw_refl _ | assumption | apply bw_drewN | apply bw_drew | apply bw_alloc | refine bw_set ?_ (by simp) _)), heap_new _ _⟩
    go_upto_region 2 with fail
    rw [← hW1]
    clear hW1
    go_wp2_with fail
    go_ret
    exact ⟨by rw [e1.out]; rfl, bw_trans (bw_trans BW J) B1⟩
  rw [hrv] at hT
  rw [Bool.and_eq_true] at hrv
  obtain ⟨hr, hv⟩ := hrv
  rw [pathV_of hr hv]
  go_enter Tryz.func10, Tryz.ntmps10
  go_upto_region 1 with fail
  rw [← hW]
  clear hW
  go_wp2_with fail
  refine hT.mono ?_
  rintro e w1 ⟨⟨qq, n, d, rfl, hR0⟩, J⟩
  obtain ⟨rfl, rfl, b, xs, rfl, hR, hx⟩ := hR0 rfl
  clear hR0
  obtain ⟨W1, hW1, B1, F⟩ : ∃ W1, W1 = w1.alloc (.cells #[.pointer (some ⟨b, 0, none⟩), .int .i64 n, .int .i64 1] 63) ∧ Below w1.heap.size w1 W1 ∧ W1.heap[w1.heap.size]? = some (.cells #[.pointer (some ⟨b, 0, none⟩), .int .i64 n, .int .i64 1] 63 (0, 0)) := ⟨_, rfl, (by repeat (first | exact bw_refl _ | assumption | apply bw_drewN | apply bw_drew | apply bw_alloc | refine bw_set ?_ (by simp) _)), heap_new _ _⟩
  have K := bw_trans J B1
  have zJ := J.size
  have zB1 := B1.size
  replace hR := hR.below B1 (by omega)
  replace K := bw_trans BW K
  replace hP := (hP.below K).grow (show w.heap.size ≤ W1.heap.size by omega)
  have hsW := h0.below K
  replace hR : RingL W1.heap.size W1 (some ⟨b, 0, none⟩) (⟨a, la, ca, o⟩ :: xs) := hR.grow (by omega)
  clear t0 t1 J B1 hT TP h
  go_upto_region 2 with fail
  rw [← hW1]
  clear hW1
  obtain ⟨hlen, hP⟩ := hP
  have HL : Hid (l.length = np) := hlen
  by_cases c1 : np < 1
  · have e1 : Hid (pathT o hs n l = false) := pathT_len (by rw [hlen]; omega)
    have i1 : (np : Int) < 1 := by omega
    clear hP hlen
    go_wp2_with fail
    go_ret
    exact ⟨by rw [e1.out]; rfl, K⟩
  by_cases c4 : 400 < np
  · have e1 : Hid (pathT o hs n l = false) := pathT_len (by rw [hlen]; omega)
    have i1 : ¬ (np : Int) < 1 := by omega
    have i2 : (400 : Int) < (np : Int) := by omega
    clear hP hlen
    go_wp2_with fail
    go_ret
    exact ⟨by rw [e1.out]; rfl, K⟩
  have i1 : ¬ (np : Int) < 1 := by omega
  have i2 : ¬ (400 : Int) < (np : Int) := by omega
  have i3 : (0 : Int) < (np : Int) := by omega
  rcases hP with hz | ⟨g, off, rfl, hg, hc⟩
  · omega
  have HC : Hid (∀ j, j < np → W1.cell? ⟨g, off + j * 2, none⟩ = some (.int .i64 (ptAt l j).1) ∧ W1.cell? ⟨g, off + j * 2 + 1, none⟩ = some (.int .i64 (ptAt l j).2)) := hc
  obtain ⟨d0, d1⟩ := hc 0 (by omega)
  rw [Nat.zero_mul, Nat.add_zero] at d0 d1
  clear hc hlen
  go_upto_region 4 with fail
  have HP0 := fun V => pt_raw (ptAt l 0) V
  have q0 := cell_regrown d0
  have q1 := cell_regrown d1
  obtain ⟨f0, f1, f2⟩ := reg_3 F
  cases hp : ptB (ptAt l 0).1 (ptAt l 0).2
  · have e1 : Hid (pathT o hs n l = false) := pathT_pt hp
    have X1 : Hid (∀ w, Calls Tryz.prog 28 #[.agg #[.int .i64 (ptAt l 0).1, .int .i64 (ptAt l 0).2]] w fun e w' => e = .returned (.bool false) ∧ Below w.heap.size w w') := fun w => by have := HP0 w; rwa [hp] at this
    clear HP0
    refine wp_region_quiet_below (by kernel_rfl) (by kernel_rfl) ?_
    repeat (first | go_big_quiet_step (first | (go_at_call 28; with_reducible exact Calls.regrown_of (X1.out _))))
    refine wpQuiet_nil ?_
    intro _ hw'
    obtain ⟨⟨dq, osq⟩, hw''⟩ := hw'
    subst hw''
    have J := below_regrown W1 dq osq
    generalize grow (redrawn W1 dq) osq = v1 at J ⊢
    go_wp2_with fail
    go_ret
    exact ⟨by rw [e1.out]; rfl, bw_trans K J⟩
  have X1 : Hid (∀ w, Calls Tryz.prog 28 #[.agg #[.int .i64 (ptAt l 0).1, .int .i64 (ptAt l 0).2]] w fun e w' => e = .returned (.bool true) ∧ Below w.heap.size w w') := fun w => by have := HP0 w; rwa [hp] at this
  clear HP0
  have hF := fun d os => fits_any b ⟨a, la, ca, o⟩ xs hs n (ptAt l 0) ad (grow (redrawn W1 d) os) (hsW.below (below_regrown W1 d os)) ((hR.below (below_regrown W1 d os) (Nat.le_refl _)).grow (below_regrown W1 d os).size) hx hv hr hp
  cases hf : fitI o hs n (ptAt l 0)
  · have e1 : Hid (pathT o hs n l = false) := pathT_fit hf
    have X2 : Hid (∀ d os, Calls Tryz.prog 29 #[.agg #[.pointer (some ⟨b, 0, none⟩), .int .i64 n, .int .i64 1], .agg #[.int .i64 (ptAt l 0).1, .int .i64 (ptAt l 0).2]] (grow (redrawn W1 d) os) fun e w' => e = .returned (.bool false) ∧ Below (grow (redrawn W1 d) os).heap.size (grow (redrawn W1 d) os) w') := fun d os => by have := hF d os; dsimp only at this; rwa [hf] at this
    clear hF
    refine wp_region_quiet_below (by kernel_rfl) (by kernel_rfl) ?_
    repeat (first | go_big_quiet_step (first | (go_at_call 28; with_reducible exact Calls.regrown_of (X1.out _)) | (go_at_call 29; with_reducible exact Calls.regrown_of (X2.out _ _))))
    refine wpQuiet_nil ?_
    intro _ hw'
    obtain ⟨⟨dq, osq⟩, hw''⟩ := hw'
    subst hw''
    have J := below_regrown W1 dq osq
    generalize grow (redrawn W1 dq) osq = v1 at J ⊢
    go_wp2_with fail
    go_ret
    exact ⟨by rw [e1.out]; rfl, bw_trans K J⟩
  have X2 : Hid (∀ d os, Calls Tryz.prog 29 #[.agg #[.pointer (some ⟨b, 0, none⟩), .int .i64 n, .int .i64 1], .agg #[.int .i64 (ptAt l 0).1, .int .i64 (ptAt l 0).2]] (grow (redrawn W1 d) os) fun e w' => e = .returned (.bool true) ∧ Below (grow (redrawn W1 d) os).heap.size (grow (redrawn W1 d) os) w') := fun d os => by have := hF d os; dsimp only at this; rwa [hf] at this
  clear hF
  refine wp_region_quiet_below (by kernel_rfl) (by kernel_rfl) ?_
  repeat (first | go_big_quiet_step (first | (go_at_call 28; with_reducible exact Calls.regrown_of (X1.out _)) | (go_at_call 29; with_reducible exact Calls.regrown_of (X2.out _ _))))
  refine wpQuiet_nil ?_
  intro _ hw'
  obtain ⟨⟨dq, osq⟩, hw''⟩ := hw'
  subst hw''
  have J := below_regrown W1 dq osq
  generalize grow (redrawn W1 dq) osq = v1 at J ⊢
  have z1 := J.size
  have zF := blk_lt F
  replace F := keep J F
  replace K := bw_trans K J
  replace hsW := hsW.below J
  replace hR : RingL v1.heap.size v1 (some ⟨b, 0, none⟩) (⟨a, la, ca, o⟩ :: xs) := (hR.below J (Nat.le_refl _)).grow J.size
  replace HC : Hid (∀ j, j < np → v1.cell? ⟨g, off + j * 2, none⟩ = some (.int .i64 (ptAt l j).1) ∧ v1.cell? ⟨g, off + j * 2 + 1, none⟩ = some (.int .i64 (ptAt l j).2)) := fun j hj => ⟨(J.cell (p := ⟨g, off + j * 2, none⟩) hg).trans (HC.out j hj).1, (J.cell (p := ⟨g, off + j * 2 + 1, none⟩) hg).trans (HC.out j hj).2⟩
  replace hg : g < v1.heap.size := by omega
  clear d0 d1 q0 q1 f0 f1 f2 X1 X2 J zF
  have HF : Hid (fitI o hs n (ptAt l 0) = true) := hf
  have HP : Hid (ptB (ptAt l 0).1 (ptAt l 0).2 = true) := hp
  clear hf hp
  obtain ⟨m, rfl⟩ : ∃ m, np = m + 1 := ⟨np - 1, by omega⟩
  obtain ⟨c, rfl⟩ : ∃ c, cp = c + 1 := ⟨cp - 1, by omega⟩
  have j1 : (1 : Int) ≤ ((m + 1 : Nat) : Int) := by omega
  have j2 : ((m + 1 : Nat) : Int) ≤ ((c + 1 : Nat) : Int) := by omega
  rcases Nat.eq_zero_or_pos m with hm | hm
  · subst hm
    have e1 : Hid (pathT o hs n l = true) := pathT_iff.2 ⟨by rw [HL.out]; omega, HP.out, HF.out, fun i hi => absurd hi (by rw [HL.out]; omega)⟩
    go_wp2_with fail
    all_goals
      refine wp_loop_rounds 2 ?_
      rw [rounds_succ]
      go_wp2_with fail
      go_ret
      exact ⟨by rw [e1.out]; rfl, K⟩
  · have hc0 : (c = 0) = False := by simp; omega
    have k1 : IntKind.i64.wrap ((m : Int)) = (m : Int) := wrap_small (by omega) (by omega)
    have zF := blk_lt F
    go_wp2_with fail
    go_loopw [45] (fun i wr => ∃ k : Nat, k ≤ m ∧ i = .int .i64 k ∧ (∀ j, j < k → mayT o hs n (ptAt l j) (ptAt l (j + 1)) = true) ∧ Below v1.heap.size v1 wr) (fun i _ => m - (intOf i).toNat)
    case atStart => exact ⟨0, Nat.zero_le _, rfl, fun j hj => absurd hj (Nat.not_lt_zero _), bw_refl _⟩
    case round =>
      obtain ⟨k, hk, rfl, hst, hnx⟩ := hrel
      have HST : Hid (∀ j, j < k → mayT o hs n (ptAt l j) (ptAt l (j + 1)) = true) := hst
      clear hst
      have KW := bw_trans K hnx
      by_cases hlt : k < m
      case neg =>
        obtain rfl : k = m := by omega
        have e1 : Hid (pathT o hs n l = true) := pathT_iff.2 ⟨by rw [HL.out]; omega, HP.out, HF.out, fun i hi => HST.out i (by rw [HL.out] at hi; omega)⟩
        go_wp2_with fail
        go_ret
        exact ⟨by rw [e1.out]; rfl, KW⟩
      case pos =>
        have i3 : (0 : Int) ≤ (k : Int) := Int.natCast_nonneg _
        have i4 : (k : Int) < (m : Int) := by omega
        have i5 : (k : Int) < (m : Int) + 1 := by omega
        obtain ⟨d0, d1⟩ := HC.out (k + 1) (by omega)
        have c0 := (hnx.cell (p := ⟨g, off + (k + 1) * 2, none⟩) hg).trans d0
        have c1' := (hnx.cell (p := ⟨g, off + (k + 1) * 2 + 1, none⟩) hg).trans d1
        rw [show off + (k + 1) * 2 = off + 2 + k * 2 by omega] at c0 c1'
        obtain ⟨d2, d3⟩ := HC.out k (by omega)
        have F2 := keep hnx F
        obtain ⟨V, hV, BV, T⟩ : ∃ V, V = wr.alloc (.cells #[.int .i64 (ptAt l (k+1)).1, .int .i64 (ptAt l (k+1)).2] 43) ∧ Below wr.heap.size wr V ∧ V.heap[wr.heap.size]? = some (.cells #[.int .i64 (ptAt l (k+1)).1, .int .i64 (ptAt l (k+1)).2] 43) := ⟨_, rfl, (by repeat (first | exact bw_refl _ | assumption | apply bw_drewN | apply bw_drew | apply bw_alloc | refine bw_set ?_ (by simp) _)), heap_new _ _⟩
        have hnV := bw_trans hnx BV
        have q0 := cell_regrown ((hnV.cell (p := ⟨g, off + k * 2, none⟩) hg).trans d2)
        have q1 := cell_regrown ((hnV.cell (p := ⟨g, off + k * 2 + 1, none⟩) hg).trans d3)
        clear d0 d1 d2 d3
        go_upto_region 9 with fail
        rw [← hV]
        clear hV c0 c1'
        obtain ⟨f0, f1, f2⟩ := reg_3 (keep hnV F)
        obtain ⟨t0, t1⟩ := reg_2 T
        have hsV := hsW.below hnV
        have hRV : RingL V.heap.size V (some ⟨b, 0, none⟩) (⟨a, la, ca, o⟩ :: xs) := (hR.below hnV (Nat.le_refl _)).grow hnV.size
        have hM := fun d os => may_any a la ca b xs o hs n (ptAt l k) (ptAt l (k + 1)) ad (grow (redrawn V d) os) (hsV.below (below_regrown V d os)) ((hRV.below (below_regrown V d os) (Nat.le_refl _)).grow (below_regrown V d os).size) hx hv hr
        cases hm' : mayT o hs n (ptAt l k) (ptAt l (k + 1))
        case false =>
          have e1 : Hid (pathT o hs n l = false) := pathT_step (i := k) (by rw [HL.out]; omega) hm'
          have X2 : Hid (∀ d os, Calls Tryz.prog 30 #[.agg #[.pointer (some ⟨b, 0, none⟩), .int .i64 n, .int .i64 1], .agg #[.int .i64 (ptAt l k).1, .int .i64 (ptAt l k).2], .agg #[.int .i64 (ptAt l (k+1)).1, .int .i64 (ptAt l (k+1)).2]] (grow (redrawn V d) os) fun e w' => e = .returned (.bool false) ∧ Below (grow (redrawn V d) os).heap.size (grow (redrawn V d) os) w') := fun d os => by have := hM d os; rwa [hm'] at this
          clear hM hm'
          refine wp_region_quiet_below (by kernel_rfl) (by kernel_rfl) ?_
          repeat (first | go_big_quiet_step (first | (go_at_call 30; with_reducible exact Calls.regrown_of (X2.out _ _))))
          refine wpQuiet_nil ?_
          intro _ hw'
          obtain ⟨⟨dq, osq⟩, hw''⟩ := hw'
          subst hw''
          have J := below_regrown V dq osq
          generalize grow (redrawn V dq) osq = v2 at J ⊢
          go_wp2_with fail
          go_ret
          exact ⟨by rw [e1.out]; rfl, bw_trans K (bw_trans hnV J)⟩
        case true =>
          have X2 : Hid (∀ d os, Calls Tryz.prog 30 #[.agg #[.pointer (some ⟨b, 0, none⟩), .int .i64 n, .int .i64 1], .agg #[.int .i64 (ptAt l k).1, .int .i64 (ptAt l k).2], .agg #[.int .i64 (ptAt l (k+1)).1, .int .i64 (ptAt l (k+1)).2]] (grow (redrawn V d) os) fun e w' => e = .returned (.bool true) ∧ Below (grow (redrawn V d) os).heap.size (grow (redrawn V d) os) w') := fun d os => by have := hM d os; rwa [hm'] at this
          have HS1 : Hid (mayT o hs n (ptAt l k) (ptAt l (k + 1)) = true) := hm'
          clear hM hm'
          refine wp_region_quiet_below (by kernel_rfl) (by kernel_rfl) ?_
          repeat (first | go_big_quiet_step (first | (go_at_call 30; with_reducible exact Calls.regrown_of (X2.out _ _))))
          refine wpQuiet_nil ?_
          intro _ hw'
          obtain ⟨⟨dq, osq⟩, hw''⟩ := hw'
          subst hw''
          have J := below_regrown V dq osq
          generalize grow (redrawn V dq) osq = v2 at J ⊢
          go_wp2_with fail
          go_roundw
          case rel => exact ⟨k + 1, by omega, by simp, fun j hj => by rcases Nat.lt_or_ge j k with h | h; exact HST.out j h; obtain rfl : j = k := (by omega); exact HS1.out, bw_trans hnV J⟩
          case measure => simp [intOf]; omega
end Go.Proofs.YtkncejcpeejkkaaGreatDoor
namespace Go.Proofs.YtkncejcpeejkkaaGreatDoor
open Go.RowKit Go.Sort

theorem okV_pt {pts : List P2} (h : okV pts = true) {i : Nat} (hi : i < pts.length) : ptB (ptAt pts i).1 (ptAt pts i).2 = true := (sgP_pt (((okV_iff pts).1 h).seg i hi)).1
theorem sCross_raw (a b c : P2) (ha : ptB a.1 a.2 = true) (hb : ptB b.1 b.2 = true) (hc : ptB c.1 c.2 = true) (w : World) :
    Calls Tryz.prog 59 #[.agg #[.int .i64 a.1, .int .i64 a.2], .agg #[.int .i64 b.1, .int .i64 b.2], .agg #[.int .i64 c.1, .int .i64 c.2]] w fun e w' => e = .returned (.int .i64 (crs a.1 a.2 b.1 b.2 c.1 c.2)) ∧ Below w.heap.size w w' := sCross_any _ _ _ _ _ _ w ha hb hc
theorem fan_bd {pts : List P2} (h : okV pts = true) (k : Nat) (hk : k < pts.length) : -(162 * k) ≤ fan pts k ∧ fan pts k ≤ 162 * k := by
  induction k with
  | zero => simp [fan]
  | succ k ih =>
    have i := ih (by omega)
    cases k with
    | zero => simp [fan]
    | succ k =>
      have e : fan pts (k + 1 + 1) = fan pts (k + 1) + triE pts (k + 1) := rfl
      have b := crs_bd (okV_pt h (i := 0) (by omega)) (okV_pt h (i := k + 1) (by omega)) (okV_pt h (i := k + 1 + 1) hk)
      have b' : -162 ≤ triE pts (k + 1) ∧ triE pts (k + 1) ≤ 162 := b
      rw [e]; omega
end Go.Proofs.YtkncejcpeejkkaaGreatDoor
namespace Go.Proofs.YtkncejcpeejkkaaGreatDoor
open Go.RowKit Go.Sort

theorem sPt_raw (p : P2) (w : World) : Calls Tryz.prog 21 #[.agg #[.int .i64 p.1, .int .i64 p.2]] w fun e w' => e = .returned (.bool (ptB p.1 p.2)) ∧ Below w.heap.size w w' := sPt_any _ _ w
theorem inI_on {pts : List P2} {p : P2} {i : Nat} (hi : i < pts.length) (h : onE pts p i = true) : inI pts p = 0 := by
  unfold inI; rw [if_pos]; rw [List.any_eq_true]; exact ⟨i, List.mem_range.2 hi, h⟩
theorem inI_off {pts : List P2} {p : P2} (h : ∀ i, i < pts.length → onE pts p i = false) : inI pts p = whereK pts p pts.length := by
  unfold inI; rw [if_neg]; rw [List.any_eq_true]; rintro ⟨i, hi, e⟩; rw [h i (List.mem_range.1 hi)] at e; cases e
theorem regrow_none {W W' : World} {g j : Nat} {x0 x1 x2 x3 : Value} (h : W.cell? ⟨g, j * 4, none⟩ = some x0 ∧ W.cell? ⟨g, j * 4 + 1, none⟩ = some x1 ∧ W.cell? ⟨g, j * 4 + 2, none⟩ = some x2 ∧ W.cell? ⟨g, j * 4 + 3, none⟩ = some x3) (J : Below W.heap.size W W') (hg : g < W.heap.size) :
    W'.cell? ⟨g, j * 4, none⟩ = some x0 ∧ W'.cell? ⟨g, j * 4 + 1, none⟩ = some x1 ∧ W'.cell? ⟨g, j * 4 + 2, none⟩ = some x2 ∧ W'.cell? ⟨g, j * 4 + 3, none⟩ = some x3 :=
  ⟨(J.cell (p := ⟨g, j * 4, none⟩) hg).trans h.1, (J.cell (p := ⟨g, j * 4 + 1, none⟩) hg).trans h.2.1, (J.cell (p := ⟨g, j * 4 + 2, none⟩) hg).trans h.2.2.1, (J.cell (p := ⟨g, j * 4 + 3, none⟩) hg).trans h.2.2.2⟩
set_option maxRecDepth 100000 in
set_option maxHeartbeats 8000000 in
theorem sInI_ok (b off len cap : Nat) (pts : List P2) (p : P2) (hok : okV pts = true) (hp : ptB p.1 p.2 = true) (hl : pts.length = len) (w : World) (hb : b < w.heap.size)
    (hc : ∀ j, j < len → w.cell? ⟨b, off + j * 2, none⟩ = some (.int .i64 (ptAt pts j).1) ∧ w.cell? ⟨b, off + j * 2 + 1, none⟩ = some (.int .i64 (ptAt pts j).2)) :
    Calls Tryz.prog 36 #[.slice (some ⟨b, off, none⟩) len cap, .agg #[.int .i64 p.1, .int .i64 p.2]] w fun e w' => e = .returned (.int .i64 (inI pts p)) ∧ Below w.heap.size w w' := by
  have h3 := ((okV_iff pts).1 hok).lo
  have h8 := ((okV_iff pts).1 hok).hi
  have hS : Hid (∀ i, i < len → sgP (ptAt pts i) (ptAt pts (nxt pts i)) = true) := fun i hi => ((okV_iff pts).1 hok).seg i (by omega)
  have hl8 : 3 ≤ len ∧ len ≤ 8 := by omega
  have hcall := sEdges_ok b off len cap pts (w.alloc (.cells #[.int .i64 p.1, .int .i64 p.2] 43)) hl (by omega) (by omega) (by simp; omega) (fun j hj => by
    have := hc j hj
    exact ⟨(((Below.refl _ w).alloc (Nat.le_refl _) _).cell (p := ⟨b, off + j * 2, none⟩) hb).trans this.1, (((Below.refl _ w).alloc (Nat.le_refl _) _).cell (p := ⟨b, off + j * 2 + 1, none⟩) hb).trans this.2⟩)
  have LP : Lies w.heap.size #[.int .i64 p.1, .int .i64 p.2] 43 (w.alloc (.cells #[.int .i64 p.1, .int .i64 p.2] 43)) := Lies.new w _ _
  have HL : Hid (pts.length = len) := hl
  clear hok h3 h8 hl hc
  go_enter Tryz.func36, Tryz.ntmps36
  go_wp2_with (go_at_call 38; refine hcall.mono ?_; rintro e w1 ⟨v, rfl, hown, J0⟩)
  have hR : ∃ g cap', v = .slice (some ⟨g, 0, none⟩) len cap' ∧ g < w1.heap.size ∧ SegRow w1 g len pts := by
    have hown' := hown
    rcases hown.2 with ⟨_, h0⟩ | ⟨g, cap', cur, rfl, hg1, hg2, _⟩
    · omega
    · exact ⟨g, cap', rfl, (Array.getElem?_eq_some_iff.1 hg2).1, SegRow.of_owns hown'⟩
  obtain ⟨g, cap', rfl, hg, hR⟩ := hR
  replace LP := LP.below J0
  have B1 : Below w.heap.size w w1 := bw_trans (by repeat (first | exact bw_refl _ | assumption | apply bw_drewN | apply bw_drew | apply bw_alloc | refine bw_set ?_ (by simp) _)) J0
  clear hown hcall J0
  go_wp2_with fail
  go_loopw [5, 7] (fun s i wr => ∃ k : Nat, k ≤ len ∧ i = .int .i64 k ∧ s = .int .i64 (whereK pts p k) ∧ (∀ j, j < k → onE pts p j = false) ∧ Below w1.heap.size w1 wr) (fun _ i _ => len - (intOf i).toNat)
  case atStart => exact ⟨0, by omega, rfl, rfl, fun j hj => by omega, bw_refl _⟩
  case round =>
    obtain ⟨k, hk, rfl, rfl, hoff, hnx⟩ := hrel
    by_cases hlt : k < len
    case neg =>
      obtain rfl : k = len := by omega
      have e1 : Hid (inI pts p = whereK pts p k) := by change _ = _; rw [inI_off (by rw [HL.out]; exact hoff), HL.out]
      go_wp2_with fail
      go_ret
      exact ⟨ret_int e1.out.symm, bw_trans B1 hnx⟩
    case pos =>
      have sk := hS.out k hlt
      obtain ⟨pa, pb⟩ := sgP_pt sk
      have i0 : (0 : Int) ≤ (k : Int) := Int.natCast_nonneg _
      have i1 : (k : Int) < (len : Int) := by omega
      have q1 : IntKind.i64.wrap ((k : Int) + 1) = (k : Int) + 1 := wrap_small (by omega) (by omega)
      have hRk := (hR.below hnx hg) k hlt
      obtain ⟨d0, d1, d2, d3⟩ := regrow4 hRk
      have LPk := LP.below hnx
      obtain ⟨u0, u1⟩ := reg_2 LPk
      have wpm := whereK_pm pts p k
      cases hon : onE pts p k
      case true =>
        have e1 : Hid (inI pts p = 0) := inI_on (by rw [HL.out]; exact hlt) hon
        have X1 : Hid (∀ w, Calls Tryz.prog 58 #[.agg #[.int .i64 (ptAt pts k).1, .int .i64 (ptAt pts k).2, .int .i64 (ptAt pts (nxt pts k)).1, .int .i64 (ptAt pts (nxt pts k)).2], .agg #[.int .i64 p.1, .int .i64 p.2]] w fun e w' => e = .returned (.bool true) ∧ Below w.heap.size w w') := fun w => by
          have := sHas_raw _ _ _ sk hp w; unfold onE at hon; rwa [hon] at this
        go_wp2_with fail
        refine wp_region_quiet_below (by kernel_rfl) (by kernel_rfl) ?_
        repeat (first | go_big_quiet_step (first | (go_at_call 58; with_reducible exact Calls.regrown_of (X1.out _))))
        refine wpQuiet_nil ?_
        intro _ hw'
        obtain ⟨⟨dq, osq⟩, hw''⟩ := hw'
        subst hw''
        have J := below_regrown wr dq osq
        generalize grow (redrawn wr dq) osq = w2 at J ⊢
        go_wp2_with fail
        go_ret
        exact ⟨ret_int e1.out.symm, bw_trans (bw_trans B1 hnx) J⟩
      case false =>
        have X1 : Hid (∀ w, Calls Tryz.prog 58 #[.agg #[.int .i64 (ptAt pts k).1, .int .i64 (ptAt pts k).2, .int .i64 (ptAt pts (nxt pts k)).1, .int .i64 (ptAt pts (nxt pts k)).2], .agg #[.int .i64 p.1, .int .i64 p.2]] w fun e w' => e = .returned (.bool false) ∧ Below w.heap.size w w') := fun w => by
          have := sHas_raw _ _ _ sk hp w; unfold onE at hon; rwa [hon] at this
        have step : ∀ (s : Int) (X : World), Below w1.heap.size w1 X → whereK pts p (k + 1) = s → ∃ k' : Nat, k' ≤ len ∧ Value.int .i64 ((k : Int) + 1) = .int .i64 k' ∧ Value.int .i64 s = .int .i64 (whereK pts p k') ∧ (∀ j, j < k' → onE pts p j = false) ∧ Below w1.heap.size w1 X :=
          fun s X hX hs => ⟨k + 1, by omega, by simp, by rw [hs], fun j hj => by rcases Nat.lt_or_ge j k with h | h; exact hoff j h; obtain rfl : j = k := (by omega); exact hon, hX⟩
        have hyes : passP (ptAt pts k) (ptAt pts (nxt pts k)) p = true → Hid (whereK pts p (k + 1) = - whereK pts p k) := fun h => by change _ = _; simp only [whereK]; unfold passE; rw [h]; rfl
        have hno : passP (ptAt pts k) (ptAt pts (nxt pts k)) p = false → Hid (whereK pts p (k + 1) = whereK pts p k) := fun h => by change _ = _; simp only [whereK]; unfold passE; rw [h]; rfl
        clear hon hoff
        generalize whereK pts p k = u at *
        generalize ptAt pts k = a at *
        generalize ptAt pts (nxt pts k) = b at *
        have nu : IntKind.i64.wrap (-u) = -u := wrap_small (by omega) (by omega)
        go_wp2_with fail
        refine wp_region_quiet_below (by kernel_rfl) (by kernel_rfl) ?_
        repeat (first | go_big_quiet_step (first | (go_at_call 58; with_reducible exact Calls.regrown_of (X1.out _))))
        refine wpQuiet_nil ?_
        intro _ hw'
        obtain ⟨⟨dq, osq⟩, hw''⟩ := hw'
        subst hw''
        have J := below_regrown wr dq osq
        generalize grow (redrawn wr dq) osq = w2 at J ⊢
        have hn2 := bw_trans hnx J
        have hR2 := regrow_none hRk J (by have := hnx.size; omega)
        obtain ⟨d0', d1', d2', d3'⟩ := hR2
        obtain ⟨p0, p1⟩ := blk_2 (LPk.below J)
        have zg : g < w2.heap.size := by have := hn2.size; omega
        have zp := (LPk.below J).lt
        clear J d0 d1 d2 d3 u0 u1 hRk LPk X1
        by_cases hgt : b.2 < a.2
        · have e1 : Hid (passP a b p = (decide (b.2 ≤ p.2) && decide (p.2 < a.2) && decide (0 < crs b.1 b.2 a.1 a.2 p.1 p.2))) := by
            change _ = _; unfold passP; rw [if_pos hgt]
          by_cases c1 : b.2 ≤ p.2
          · by_cases c2 : p.2 < a.2
            · by_cases c3 : 0 < crs b.1 b.2 a.1 a.2 p.1 p.2
              · have e2 := hyes (by rw [e1.out, decide_eq_true c1, decide_eq_true c2, decide_eq_true c3]; rfl)
                go_wp2_with (go_at_call 59; refine (sCross_raw _ _ _ pb pa hp _).mono ?_; rintro e w3 ⟨rfl, J⟩)
                go_roundw
                case rel => exact step _ _ (bw_trans (by repeat (first | exact hn2 | apply bw_alloc | refine bw_set ?_ (by simp; omega) _)) J) e2.out
                case measure => simp [intOf]; omega
              · have e2 := hno (by rw [e1.out, decide_eq_true c1, decide_eq_true c2, decide_eq_false c3]; rfl)
                go_wp2_with (go_at_call 59; refine (sCross_raw _ _ _ pb pa hp _).mono ?_; rintro e w3 ⟨rfl, J⟩)
                go_roundw
                case rel => exact step _ _ (bw_trans (by repeat (first | exact hn2 | apply bw_alloc | refine bw_set ?_ (by simp; omega) _)) J) e2.out
                case measure => simp [intOf]; omega
            · have e2 := hno (by rw [e1.out, decide_eq_true c1, decide_eq_false c2]; rfl)
              go_wp2_with fail
              go_roundw
              case rel => exact step _ _ (by repeat (first | exact hn2 | apply bw_alloc | refine bw_set ?_ (by simp; omega) _)) e2.out
              case measure => simp [intOf]; omega
          · have e2 := hno (by rw [e1.out, decide_eq_false c1]; rfl)
            go_wp2_with fail
            go_roundw
            case rel => exact step _ _ (by repeat (first | exact hn2 | apply bw_alloc | refine bw_set ?_ (by simp; omega) _)) e2.out
            case measure => simp [intOf]; omega
        · have e1 : Hid (passP a b p = (decide (a.2 ≤ p.2) && decide (p.2 < b.2) && decide (0 < crs a.1 a.2 b.1 b.2 p.1 p.2))) := by
            change _ = _; unfold passP; rw [if_neg hgt]
          by_cases c1 : a.2 ≤ p.2
          · by_cases c2 : p.2 < b.2
            · by_cases c3 : 0 < crs a.1 a.2 b.1 b.2 p.1 p.2
              · have e2 := hyes (by rw [e1.out, decide_eq_true c1, decide_eq_true c2, decide_eq_true c3]; rfl)
                go_wp2_with (go_at_call 59; refine (sCross_raw _ _ _ pa pb hp _).mono ?_; rintro e w3 ⟨rfl, J⟩)
                go_roundw
                case rel => exact step _ _ (bw_trans (by repeat (first | exact hn2 | apply bw_alloc | refine bw_set ?_ (by simp; omega) _)) J) e2.out
                case measure => simp [intOf]; omega
              · have e2 := hno (by rw [e1.out, decide_eq_true c1, decide_eq_true c2, decide_eq_false c3]; rfl)
                go_wp2_with (go_at_call 59; refine (sCross_raw _ _ _ pa pb hp _).mono ?_; rintro e w3 ⟨rfl, J⟩)
                go_roundw
                case rel => exact step _ _ (bw_trans (by repeat (first | exact hn2 | apply bw_alloc | refine bw_set ?_ (by simp; omega) _)) J) e2.out
                case measure => simp [intOf]; omega
            · have e2 := hno (by rw [e1.out, decide_eq_true c1, decide_eq_false c2]; rfl)
              go_wp2_with fail
              go_roundw
              case rel => exact step _ _ (by repeat (first | exact hn2 | apply bw_alloc | refine bw_set ?_ (by simp; omega) _)) e2.out
              case measure => simp [intOf]; omega
          · have e2 := hno (by rw [e1.out, decide_eq_false c1]; rfl)
            go_wp2_with fail
            go_roundw
            case rel => exact step _ _ (by repeat (first | exact hn2 | apply bw_alloc | refine bw_set ?_ (by simp; omega) _)) e2.out
            case measure => simp [intOf]; omega
end Go.Proofs.YtkncejcpeejkkaaGreatDoor
namespace Go.Proofs.YtkncejcpeejkkaaGreatDoor
open Go.RowKit Go.Sort

set_option maxRecDepth 100000 in
set_option maxHeartbeats 8000000 in
theorem sApart_ok (b1 off1 len1 cap1 b2 off2 len2 cap2 : Nat) (l1 l2 : List P2) (ok1 : okV l1 = true) (ok2 : okV l2 = true) (hl1 : l1.length = len1) (hl2 : l2.length = len2) (w : World) (hb1 : b1 < w.heap.size) (hb2 : b2 < w.heap.size)
    (hc1 : ∀ j, j < len1 → w.cell? ⟨b1, off1 + j * 2, none⟩ = some (.int .i64 (ptAt l1 j).1) ∧ w.cell? ⟨b1, off1 + j * 2 + 1, none⟩ = some (.int .i64 (ptAt l1 j).2))
    (hc2 : ∀ j, j < len2 → w.cell? ⟨b2, off2 + j * 2, none⟩ = some (.int .i64 (ptAt l2 j).1) ∧ w.cell? ⟨b2, off2 + j * 2 + 1, none⟩ = some (.int .i64 (ptAt l2 j).2)) :
    Calls Tryz.prog 37 #[.slice (some ⟨b1, off1, none⟩) len1 cap1, .slice (some ⟨b2, off2, none⟩) len2 cap2] w fun e w' => e = .returned (.bool (apL l1 l2)) ∧ Below w.heap.size w w' := by
  have h31 := okV_pos ok1
  have h32 := okV_pos ok2
  have S1 : Hid (∀ i, i < len1 → sgP (ptAt l1 i) (ptAt l1 (nxt l1 i)) = true) := fun i hi => ((okV_iff l1).1 ok1).seg i (by omega)
  have S2 : Hid (∀ i, i < len2 → sgP (ptAt l2 i) (ptAt l2 (nxt l2 i)) = true) := fun i hi => ((okV_iff l2).1 ok2).seg i (by omega)
  have L1 : Hid (l1.length = len1) := hl1
  have L2 : Hid (l2.length = len2) := hl2
  have b1l : 3 ≤ len1 ∧ len1 ≤ 8 := by omega
  have b2l : 3 ≤ len2 ∧ len2 ≤ 8 := by omega
  clear ok1 ok2 h31 h32 hl1 hl2
  go_enter Tryz.func37, Tryz.ntmps37
  go_wp2_with fail
  refine (sEdges_ok b1 off1 len1 cap1 l1 w L1 (by omega) (by omega) hb1 hc1).mono ?_
  rintro e w1 ⟨v1, rfl, hown1, J1⟩
  have hR : ∃ g cap', v1 = .slice (some ⟨g, 0, none⟩) len1 cap' ∧ g < w1.heap.size ∧ SegRow w1 g len1 l1 := by
    have hown' := hown1
    rcases hown1.2 with ⟨_, h0⟩ | ⟨g, cap', cur, rfl, hg1, hg2, _⟩
    · omega
    · exact ⟨g, cap', rfl, (Array.getElem?_eq_some_iff.1 hg2).1, SegRow.of_owns hown'⟩
  obtain ⟨g1, c1, rfl, hg1, R1⟩ := hR
  clear hown1
  go_wp2_with fail
  refine (sEdges_ok b2 off2 len2 cap2 l2 w1 L2 (by omega) (by omega) (by have := J1.size; omega) (fun j hj => ⟨(J1.cell (p := ⟨b2, off2 + j * 2, none⟩) hb2).trans (hc2 j hj).1, (J1.cell (p := ⟨b2, off2 + j * 2 + 1, none⟩) hb2).trans (hc2 j hj).2⟩)).mono ?_
  rintro e w2 ⟨v2, rfl, hown2, J2⟩
  have hR : ∃ g cap', v2 = .slice (some ⟨g, 0, none⟩) len2 cap' ∧ g < w2.heap.size ∧ SegRow w2 g len2 l2 := by
    have hown' := hown2
    rcases hown2.2 with ⟨_, h0⟩ | ⟨g, cap', cur, rfl, hg1, hg2, _⟩
    · omega
    · exact ⟨g, cap', rfl, (Array.getElem?_eq_some_iff.1 hg2).1, SegRow.of_owns hown'⟩
  obtain ⟨g2, c2, rfl, hg2, R2⟩ := hR
  replace R1 := R1.below J2 hg1
  have hg1' : g1 < w2.heap.size := by have := J2.size; omega
  have K2 := bw_trans J1 J2
  clear hown2 J1 J2 hc1 hc2
  go_wp2_with fail
  go_loopw [7] (fun i wr => ∃ k : Nat, k ≤ len1 ∧ i = .int .i64 k ∧ (∀ j, j < k → ∀ q, q < len2 → meetP (ptAt l1 j) (ptAt l1 (nxt l1 j)) (ptAt l2 q) (ptAt l2 (nxt l2 q)) = false) ∧ Below w2.heap.size w2 wr) (fun i _ => len1 - (intOf i).toNat)
  case atStart => exact ⟨0, Nat.zero_le _, rfl, fun j hj => by omega, bw_refl _⟩
  case round =>
    obtain ⟨i, hi, rfl, hall, hnx⟩ := hrel
    by_cases hlt : i < len1
    case neg =>
      obtain rfl : i = len1 := by omega
      have e1 : Hid (apL l1 l2 = true) := (apL_iff l1 l2).2 (fun j hj q hq => hall j (by rw [L1.out] at hj; exact hj) q (by rw [L2.out] at hq; exact hq))
      clear hall
      go_wp2_with fail
      go_ret
      exact ⟨ret_bool e1.out.symm, bw_trans K2 hnx⟩
    case pos =>
      have si := S1.out i hlt
      go_wp2_with fail
      go_loopw [8] (fun k wr => ∃ k' : Nat, k' ≤ len2 ∧ k = .int .i64 k' ∧ (∀ q, q < k' → meetP (ptAt l1 i) (ptAt l1 (nxt l1 i)) (ptAt l2 q) (ptAt l2 (nxt l2 q)) = false) ∧ Below w2.heap.size w2 wr) (fun k _ => len2 - (intOf k).toNat)
      case atStart => exact ⟨0, Nat.zero_le _, rfl, fun j hj => by omega, hnx⟩
      case round =>
        obtain ⟨k, hk, rfl, hrow, hny⟩ := hrel
        by_cases hlt2 : k < len2
        case neg =>
          obtain rfl : k = len2 := by omega
          go_wp2_with fail
          go_roundw
          case rel => exact ⟨i + 1, by omega, by simp, fun j hj q hq => by rcases Nat.lt_or_ge j i with h | h; exact hall j h q hq; obtain rfl : j = i := (by omega); exact hrow q hq, hny⟩
          case measure => simp [intOf]; omega
        case pos =>
          have sk := S2.out k hlt2
          have i0 : (0 : Int) ≤ (i : Int) := Int.natCast_nonneg _
          have i1 : (i : Int) < (len1 : Int) := by omega
          have j0 : (0 : Int) ≤ (k : Int) := Int.natCast_nonneg _
          have j1 : (k : Int) < (len2 : Int) := by omega
          obtain ⟨d0, d1, d2, d3⟩ := regrow4 ((R1.below hny hg1') i hlt)
          obtain ⟨f0, f1, f2, f3⟩ := regrow4 ((R2.below hny hg2) k hlt2)
          cases hme : meetP (ptAt l1 i) (ptAt l1 (nxt l1 i)) (ptAt l2 k) (ptAt l2 (nxt l2 k))
          · have X1 : Hid (∀ w, Calls Tryz.prog 42 #[.agg #[.int .i64 (ptAt l1 i).1, .int .i64 (ptAt l1 i).2, .int .i64 (ptAt l1 (nxt l1 i)).1, .int .i64 (ptAt l1 (nxt l1 i)).2], .agg #[.int .i64 (ptAt l2 k).1, .int .i64 (ptAt l2 k).2, .int .i64 (ptAt l2 (nxt l2 k)).1, .int .i64 (ptAt l2 (nxt l2 k)).2]] w fun e w' => e = .returned (.bool false) ∧ Below w.heap.size w w') := fun w => by
              have := sMeet_raw _ _ _ _ si sk w; rwa [hme] at this
            have hrow' : Hid (∀ q, q < k + 1 → meetP (ptAt l1 i) (ptAt l1 (nxt l1 i)) (ptAt l2 q) (ptAt l2 (nxt l2 q)) = false) := fun q hq => by rcases Nat.lt_or_ge q k with h | h; exact hrow q h; obtain rfl : q = k := (by omega); exact hme
            clear hrow hme
            go_wp2_with fail
            refine wp_region_quiet_below (by kernel_rfl) (by kernel_rfl) ?_
            repeat (first | go_big_quiet_step (first | (go_at_call 42; with_reducible exact Calls.regrown_of (X1.out _))))
            refine wpQuiet_nil ?_
            intro _ hw'
            obtain ⟨⟨dq, osq⟩, hw''⟩ := hw'
            subst hw''
            have J := below_regrown wr dq osq
            generalize grow (redrawn wr dq) osq = w5 at J ⊢
            go_wp2_with fail
            go_roundw
            case rel => exact ⟨k + 1, by omega, by simp, hrow'.out, bw_trans hny J⟩
            case measure => simp [intOf]; omega
          · have X1 : Hid (∀ w, Calls Tryz.prog 42 #[.agg #[.int .i64 (ptAt l1 i).1, .int .i64 (ptAt l1 i).2, .int .i64 (ptAt l1 (nxt l1 i)).1, .int .i64 (ptAt l1 (nxt l1 i)).2], .agg #[.int .i64 (ptAt l2 k).1, .int .i64 (ptAt l2 k).2, .int .i64 (ptAt l2 (nxt l2 k)).1, .int .i64 (ptAt l2 (nxt l2 k)).2]] w fun e w' => e = .returned (.bool true) ∧ Below w.heap.size w w') := fun w => by
              have := sMeet_raw _ _ _ _ si sk w; rwa [hme] at this
            have e1 : Hid (apL l1 l2 = false) := by
              change _ = _
              rw [Bool.eq_false_iff]; intro h
              rw [(apL_iff l1 l2).1 h i (by rw [L1.out]; exact hlt) k (by rw [L2.out]; exact hlt2)] at hme; cases hme
            clear hrow hme hall
            go_wp2_with fail
            refine wp_region_quiet_below (by kernel_rfl) (by kernel_rfl) ?_
            repeat (first | go_big_quiet_step (first | (go_at_call 42; with_reducible exact Calls.regrown_of (X1.out _))))
            refine wpQuiet_nil ?_
            intro _ hw'
            obtain ⟨⟨dq, osq⟩, hw''⟩ := hw'
            subst hw''
            have J := below_regrown wr dq osq
            generalize grow (redrawn wr dq) osq = w5 at J ⊢
            go_wp2_with fail
            go_ret
            exact ⟨ret_bool e1.out.symm, bw_trans (bw_trans K2 hny) J⟩
end Go.Proofs.YtkncejcpeejkkaaGreatDoor
namespace Go.Proofs.YtkncejcpeejkkaaGreatDoor
open Go.RowKit Go.Sort

theorem sApart_pts (a1 a2 : Option Addr) (len1 cap1 len2 cap2 : Nat) (l1 l2 : List P2) (ok1 : okV l1 = true) (ok2 : okV l2 = true) (w : World) (hP1 : Pts w.heap.size w a1 len1 l1) (hP2 : Pts w.heap.size w a2 len2 l2) :
    Calls Tryz.prog 37 #[.slice a1 len1 cap1, .slice a2 len2 cap2] w fun e w' => e = .returned (.bool (apL l1 l2)) ∧ Below w.heap.size w w' := by
  have h1 := okV_pos ok1
  have h2 := okV_pos ok2
  obtain ⟨e1, c1⟩ := hP1
  obtain ⟨e2, c2⟩ := hP2
  rcases c1 with h0 | ⟨b1, off1, rfl, hb1, hc1⟩
  · omega
  rcases c2 with h0 | ⟨b2, off2, rfl, hb2, hc2⟩
  · omega
  exact sApart_ok b1 off1 len1 cap1 b2 off2 len2 cap2 l1 l2 ok1 ok2 e1 e2 w hb1 hb2 hc1 hc2
theorem sInI_pts (a1 : Option Addr) (len1 cap1 : Nat) (l1 : List P2) (p : P2) (ok1 : okV l1 = true) (hp : ptB p.1 p.2 = true) (w : World) (hP1 : Pts w.heap.size w a1 len1 l1) :
    Calls Tryz.prog 36 #[.slice a1 len1 cap1, .agg #[.int .i64 p.1, .int .i64 p.2]] w fun e w' => e = .returned (.int .i64 (inI l1 p)) ∧ Below w.heap.size w w' := by
  have h1 := okV_pos ok1
  obtain ⟨e1, c1⟩ := hP1
  rcases c1 with h0 | ⟨b1, off1, rfl, hb1, hc1⟩
  · omega
  exact sInI_ok b1 off1 len1 cap1 l1 p ok1 hp e1 w hb1 hc1
/-- So many holes lie as they must. -/
def Upto (o : List P2) (hs : List (List P2)) (k : Nat) : Prop := ∀ i, i < k → okV (hs[i]?.getD []) = true ∧ arB o (hs[i]?.getD []) = true ∧ ∀ j, j < i → beB (hs[i]?.getD []) (hs[j]?.getD []) = true
theorem upto_yes {o : List P2} {hs : List (List P2)} (h0 : okV o = true) (hn : hs.length ≤ 2) (h : Upto o hs hs.length) : plV o hs = true := by
  refine (plV_iff o hs).2 ⟨h0, hn, ?_, ?_, ?_⟩
  · intro x hx
    obtain ⟨i, hi, rfl⟩ := List.getElem_of_mem hx
    have := (h i hi).1
    rwa [List.getElem?_eq_getElem hi, Option.getD_some] at this
  · intro x hx
    obtain ⟨i, hi, rfl⟩ := List.getElem_of_mem hx
    have := (h i hi).2.1
    rwa [List.getElem?_eq_getElem hi, Option.getD_some] at this
  · intro i k hik hk
    rw [beB_comm]; exact (h k hk).2.2 i hik
theorem upto_all' {o : List P2} {hs : List (List P2)} (h : plV o hs = true) : Upto o hs hs.length := by
  have L := (plV_iff o hs).1 h
  intro i hi
  have hm : hs[i]?.getD [] ∈ hs := by rw [List.getElem?_eq_getElem hi, Option.getD_some]; exact List.getElem_mem hi
  exact ⟨L.ok _ hm, L.ar _ hm, fun j hj => by rw [beB_comm]; exact L.be j i hj hi⟩
set_option maxRecDepth 100000 in
set_option maxHeartbeats 8000000 in
theorem sPlateOk_any (a ah : Option Addr) (la ca nh ch : Nat) (o : List P2) (hs : List (List P2)) (w : World) (h : Plt w a la ah nh o hs) :
    Calls Tryz.prog 18 #[.agg #[.slice a la ca, .slice ah nh ch]] w fun e W' => e = .returned (.bool (plV o hs)) ∧ Below w.heap.size w W' := by
  obtain ⟨W, hW, BW, T⟩ : ∃ W, W = w.alloc (.cells #[.slice a la ca, .slice ah nh ch] 32) ∧ Below w.heap.size w W ∧ W.heap[w.heap.size]? = some (.cells #[.slice a la ca, .slice ah nh ch] 32) := ⟨_, rfl, (by repeat (first | exact bw_refl _ | assumption | apply bw_drewN | apply bw_drew | apply bw_alloc | refine bw_set ?_ (by simp) _)), heap_new _ _⟩
  replace h := h.below BW
  have hla := h.1
  have hP := h.2.1
  have hcall := sOk_any a la ca o hla W hP
  obtain ⟨t0, t1⟩ := blk_2 T
  have zT := blk_lt T
  cases hok : okV o
  · rw [hok] at hcall
    have e1 : Hid (plV o hs = false) := by
      change _ = _; rw [Bool.eq_false_iff]; intro hc
      rw [((plV_iff o hs).1 hc).out] at hok; cases hok
    go_enter Tryz.func18, Tryz.ntmps18
    go_upto_region 1 with fail
    rw [← hW]
    clear hW
    go_wp2_with (go_at_call 35; refine hcall.mono ?_; rintro e v ⟨rfl, J⟩)
    go_ret
    exact ⟨ret_bool e1.out.symm, bw_trans BW J⟩
  rw [hok] at hcall
  by_cases hb : 2 < nh
  · have hb' : (2 : Int) < (nh : Int) := by omega
    have e1 : Hid (plV o hs = false) := by
      change _ = _; rw [Bool.eq_false_iff]; intro hc
      have := plV_len hc; have := h.2.2.1; omega
    go_enter Tryz.func18, Tryz.ntmps18
    go_upto_region 1 with fail
    rw [← hW]
    clear hW
    go_wp2_with (go_at_call 35; refine hcall.mono ?_; rintro e v ⟨rfl, J⟩; obtain ⟨t0', t1'⟩ := blk_2 (keep J T))
    go_ret
    exact ⟨ret_bool e1.out.symm, bw_trans BW J⟩
  have hb' : ¬ (2 : Int) < (nh : Int) := by omega
  obtain ⟨_, _, hlen, A, L, C, hS, hH⟩ := h
  have HL : Hid (hs.length = nh) := hlen
  have hfin : Hid (Upto o hs nh → plV o hs = true) := fun hu => upto_yes hok (by omega) (by rw [hlen]; exact hu)
  have hno : Hid (∀ i, i < nh → (okV (hs[i]?.getD []) = true → arB o (hs[i]?.getD []) = true → ∃ j, j < i ∧ beB (hs[i]?.getD []) (hs[j]?.getD []) = false) → plV o hs = false) := fun i hi hc => by
    rw [Bool.eq_false_iff]; intro hv
    have hu := upto_all' hv i (by omega)
    obtain ⟨j, hj, e⟩ := hc hu.1 hu.2.1
    rw [hu.2.2 j hj] at e; cases e
  have hokH : Hid (okV o = true) := hok
  have hPt : Hid (∀ l : List P2, okV l = true → ptB (ptAt l 0).1 (ptAt l 0).2 = true ∧ 3 ≤ l.length) := fun l hl => ⟨by have := okV_pos hl; exact (sgP_pt (((okV_iff l).1 hl).seg 0 (by omega))).1, (okV_pos hl).1⟩
  clear hlen hok
  go_enter Tryz.func18, Tryz.ntmps18
  go_upto_region 1 with fail
  rw [← hW]
  clear hW
  go_wp2_with (go_at_call 35; refine hcall.mono ?_; rintro e v ⟨rfl, J⟩; obtain ⟨t0', t1'⟩ := blk_2 (keep J T))
  replace T := keep J T
  replace hP := (hP.below J).grow J.size
  replace hS := (hS.below J).grow J.size
  replace hH : ∀ j, j < nh → L j ≤ 1048576 ∧ Pts v.heap.size v (A j) (L j) (hs[j]?.getD []) := fun j hj => ⟨(hH j hj).1, ((hH j hj).2.below J).grow J.size⟩
  have K := bw_trans BW J
  clear hcall t0 t1 t0' t1' zT J
  go_loopw [3] (fun i wr => ∃ k : Nat, k ≤ nh ∧ i = .int .i64 k ∧ Upto o hs k ∧ Below v.heap.size v wr) (fun i _ => nh - (intOf i).toNat)
  case atStart => exact ⟨0, Nat.zero_le _, rfl, fun i hi => by omega, bw_refl _⟩
  case round =>
    obtain ⟨i, hi, rfl, hu, hnx⟩ := hrel
    obtain ⟨t0, t1⟩ := blk_2 (keep hnx T)
    have zT := blk_lt (keep hnx T)
    by_cases hlt : i < nh
    case neg =>
      obtain rfl : i = nh := by omega
      have e1 : Hid (plV o hs = true) := hfin.out hu
      clear hu
      go_wp2_with fail
      go_ret
      exact ⟨ret_bool e1.out.symm, bw_trans K hnx⟩
    case pos =>
      rcases hS.below hnx with h0 | ⟨b, off, rfl, hbl, hcs⟩
      · omega
      have c0 := hcs i hlt
      have i0 : (0 : Int) ≤ (i : Int) := Int.natCast_nonneg _
      have i1 : (i : Int) < (nh : Int) := by omega
      obtain ⟨hLi, hPi⟩ := hH i hlt
      have hPw := (hP.below hnx).grow hnx.size
      have hPiw := (hPi.below hnx).grow hnx.size
      have HO : Hid (∀ d os, Calls Tryz.prog 35 #[.slice (A i) (L i) (C i)] (grow (redrawn wr d) os) fun e W' => e = .returned (.bool (okV (hs[i]?.getD []))) ∧ Below (grow (redrawn wr d) os).heap.size (grow (redrawn wr d) os) W') := fun d os =>
        sOk_any (A i) (L i) (C i) _ hLi _ ((hPiw.below (below_regrown wr d os)).grow (below_regrown wr d os).size)
      obtain ⟨hh, hhe⟩ : ∃ hh, hs[i]?.getD [] = hh := ⟨_, rfl⟩
      have HE : Hid (hs[i]?.getD [] = hh) := hhe
      rw [hhe] at HO hPi hPiw
      have hnoi := hno.out i hlt
      rw [hhe] at hnoi
      clear hhe
      obtain ⟨u0, u1⟩ := reg_2 (keep hnx T)
      have c0r := cell_regrown c0
      cases hokh : okV hh
      · have e1 : Hid (plV o hs = false) := hnoi (fun e => by rw [hokh] at e; cases e)
        rw [hokh] at HO
        clear hu hnoi
        go_wp2_with fail
        refine wp_region_quiet_below (by kernel_rfl) (by kernel_rfl) ?_
        repeat (first | go_big_quiet_step (first | (go_at_call 35; with_reducible exact Calls.regrown_of (HO.out _ _))))
        refine wpQuiet_nil ?_
        intro _ hw'
        obtain ⟨⟨dq, osq⟩, hw''⟩ := hw'
        subst hw''
        have J := below_regrown wr dq osq
        generalize grow (redrawn wr dq) osq = v2 at J ⊢
        go_wp2_with fail
        go_ret
        exact ⟨ret_bool e1.out.symm, bw_trans (bw_trans K hnx) J⟩
      rw [hokh] at HO
      have hpt := hPt.out hh hokh
      have HI : Hid (∀ d os, Calls Tryz.prog 36 #[.slice a la ca, .agg #[.int .i64 (ptAt hh 0).1, .int .i64 (ptAt hh 0).2]] (grow (redrawn wr d) os) fun e W' => e = .returned (.int .i64 (inI o (ptAt hh 0))) ∧ Below (grow (redrawn wr d) os).heap.size (grow (redrawn wr d) os) W') := fun d os =>
        sInI_pts a la ca o (ptAt hh 0) hokH.out hpt.1 _ ((hPw.below (below_regrown wr d os)).grow (below_regrown wr d os).size)
      have HA : Hid (∀ d os, Calls Tryz.prog 37 #[.slice a la ca, .slice (A i) (L i) (C i)] (grow (redrawn wr d) os) fun e W' => e = .returned (.bool (apL o hh)) ∧ Below (grow (redrawn wr d) os).heap.size (grow (redrawn wr d) os) W') := fun d os =>
        sApart_pts a (A i) la ca (L i) (C i) o hh hokH.out hokh _ ((hPw.below (below_regrown wr d os)).grow (below_regrown wr d os).size) ((hPiw.below (below_regrown wr d os)).grow (below_regrown wr d os).size)
      have hLi3 : 3 ≤ L i := by have := hpt.2; have := hPi.1; omega
      obtain ⟨bi, offi, hai, hbi, f0, f1⟩ := pts_first hPiw (by omega)
      have f0r := cell_regrown f0
      have f1r := cell_regrown f1
      rw [hai] at HO HA c0r
      have p1 : (0 : Int) < (L i : Int) := by omega
      have har : Hid (arB o hh = ((inI o (ptAt hh 0) == 1) && apL o hh)) := by
        change _ = _; unfold arB; rw [Bool.and_comm]; congr 1
      have hq0 : Hid (ptB (ptAt hh 0).1 (ptAt hh 0).2 = true) := hpt.1
      obtain ⟨qq, hqq⟩ : ∃ qq, ptAt hh 0 = qq := ⟨_, rfl⟩
      have HQ : Hid (ptAt hh 0 = qq) := hqq
      rw [hqq] at HI f0r f1r har hq0
      clear hqq f0 f1 hpt
      generalize inI o qq = u at HI har
      cases hu1 : u == 1
      · have hne : (u != 1) = true := by simp only [bne, hu1, Bool.not_false]
        have e1 : Hid (plV o hs = false) := hnoi (fun _ e => by rw [har.out, hu1] at e; cases e)
        clear hu hnoi har
        go_wp2_with fail
        refine wp_region_quiet_below (by kernel_rfl) (by kernel_rfl) ?_
        repeat (first | go_big_quiet_step (first | (go_at_call 35; with_reducible exact Calls.regrown_of (HO.out _ _)) | (go_at_call 36; with_reducible exact Calls.regrown_of (HI.out _ _))))
        refine wpQuiet_nil ?_
        intro _ hw'
        obtain ⟨⟨dq, osq⟩, hw''⟩ := hw'
        subst hw''
        have J := below_regrown wr dq osq
        generalize grow (redrawn wr dq) osq = v2 at J ⊢
        go_wp2_with fail
        go_ret
        exact ⟨ret_bool e1.out.symm, bw_trans (bw_trans K hnx) J⟩
      obtain rfl : u = 1 := by simpa using hu1
      cases hap : apL o hh
      · have e1 : Hid (plV o hs = false) := hnoi (fun _ e => by rw [har.out, hap] at e; cases e)
        rw [hap] at HA
        clear hu hnoi har hap
        go_wp2_with fail
        refine wp_region_quiet_below (by kernel_rfl) (by kernel_rfl) ?_
        repeat (first | go_big_quiet_step (first | (go_at_call 35; with_reducible exact Calls.regrown_of (HO.out _ _)) | (go_at_call 36; with_reducible exact Calls.regrown_of (HI.out _ _)) | (go_at_call 37; with_reducible exact Calls.regrown_of (HA.out _ _))))
        refine wpQuiet_nil ?_
        intro _ hw'
        obtain ⟨⟨dq, osq⟩, hw''⟩ := hw'
        subst hw''
        have J := below_regrown wr dq osq
        generalize grow (redrawn wr dq) osq = v2 at J ⊢
        go_wp2_with fail
        go_ret
        exact ⟨ret_bool e1.out.symm, bw_trans (bw_trans K hnx) J⟩
      rw [hap] at HA
      have haro : Hid (arB o hh = true) := by change _ = _; rw [har.out, hap]; rfl
      have hokhH : Hid (okV hh = true) := hokh
      have huH : Hid (Upto o hs i) := hu
      have hnoiH : Hid (∀ j, j < i → beB hh (hs[j]?.getD []) = false → plV o hs = false) := fun j hj e => hnoi (fun _ _ => ⟨j, hj, e⟩)
      clear hu hnoi har hap hokh
      go_wp2_with fail
      refine wp_region_quiet_below (by kernel_rfl) (by kernel_rfl) ?_
      repeat (first | go_big_quiet_step (first | (go_at_call 35; with_reducible exact Calls.regrown_of (HO.out _ _)) | (go_at_call 36; with_reducible exact Calls.regrown_of (HI.out _ _)) | (go_at_call 37; with_reducible exact Calls.regrown_of (HA.out _ _))))
      refine wpQuiet_nil ?_
      intro _ hw'
      obtain ⟨⟨dq, osq⟩, hw''⟩ := hw'
      subst hw''
      have J := below_regrown wr dq osq
      generalize grow (redrawn wr dq) osq = v2 at J ⊢
      have hn2 := bw_trans hnx J
      clear J HO HI HA c0r f0r f1r u0 u1 t0 t1 zT hcs c0
      go_wp2_with fail
      go_loopw [5] (fun k wr => ∃ k' : Nat, k' ≤ i ∧ k = .int .i64 k' ∧ (∀ j, j < k' → beB hh (hs[j]?.getD []) = true) ∧ Below v.heap.size v wr) (fun k _ => i - (intOf k).toNat)
      case atStart => exact ⟨0, Nat.zero_le _, rfl, fun j hj => by omega, hn2⟩
      case round =>
        obtain ⟨k, hk, rfl, hrow, hny⟩ := hrel
        by_cases hlt2 : k < i
        case neg =>
          obtain rfl : k = i := by omega
          have hup : Hid (Upto o hs (k + 1)) := fun j hj => by
            rcases Nat.lt_or_ge j k with h | h
            · exact huH.out j h
            · obtain rfl : j = k := by omega
              rw [HE.out]; exact ⟨hokhH.out, haro.out, hrow⟩
          clear hrow
          go_wp2_with fail
          go_roundw
          case rel => exact ⟨k + 1, by omega, by simp, hup.out, hny⟩
          case measure => simp [intOf]; omega
        case pos =>
          obtain ⟨t0, t1⟩ := blk_2 (keep hny T)
          have zT := blk_lt (keep hny T)
          rcases hS.below hny with h0 | ⟨b', off', hbo, hbl', hcs⟩
          · omega
          cases hbo
          have ck := hcs k (by omega)
          clear hcs
          have j0 : (0 : Int) ≤ (k : Int) := Int.natCast_nonneg _
          have j1 : (k : Int) < (nh : Int) := by omega
          obtain ⟨hLk, hPk⟩ := hH k (by omega)
          have hokk := (huH.out k hlt2).1
          have hnok := hnoiH.out k hlt2
          have hrow' : Hid (beB hh (hs[k]?.getD []) = true → ∀ j, j < k + 1 → beB hh (hs[j]?.getD []) = true) := fun e j hj => by
            rcases Nat.lt_or_ge j k with h | h
            · exact hrow j h
            · obtain rfl : j = k := by omega
              exact e
          clear hrow
          generalize hs[k]?.getD [] = hk2 at hPk hokk hnok hrow'
          have hPkw := (hPk.below hny).grow hny.size
          have hPiw' := (hPi.below hny).grow hny.size
          have hpt2 := hPt.out hk2 hokk
          have hLk3 : 3 ≤ L k := by have := hpt2.2; have := hPk.1; omega
          have hI1 : Hid (∀ d os, Calls Tryz.prog 36 #[.slice (A k) (L k) (C k), .agg #[.int .i64 qq.1, .int .i64 qq.2]] (grow (redrawn wr d) os) fun e W' => e = .returned (.int .i64 (inI hk2 qq)) ∧ Below (grow (redrawn wr d) os).heap.size (grow (redrawn wr d) os) W') := fun d os =>
            sInI_pts (A k) (L k) (C k) hk2 qq hokk hq0.out _ ((hPkw.below (below_regrown wr d os)).grow (below_regrown wr d os).size)
          have hI2 : Hid (∀ d os, Calls Tryz.prog 36 #[.slice (A i) (L i) (C i), .agg #[.int .i64 (ptAt hk2 0).1, .int .i64 (ptAt hk2 0).2]] (grow (redrawn wr d) os) fun e W' => e = .returned (.int .i64 (inI hh (ptAt hk2 0))) ∧ Below (grow (redrawn wr d) os).heap.size (grow (redrawn wr d) os) W') := fun d os =>
            sInI_pts (A i) (L i) (C i) hh (ptAt hk2 0) hokhH.out hpt2.1 _ ((hPiw'.below (below_regrown wr d os)).grow (below_regrown wr d os).size)
          have HA1 : Hid (∀ d os, Calls Tryz.prog 37 #[.slice (A i) (L i) (C i), .slice (A k) (L k) (C k)] (grow (redrawn wr d) os) fun e W' => e = .returned (.bool (apL hh hk2)) ∧ Below (grow (redrawn wr d) os).heap.size (grow (redrawn wr d) os) W') := fun d os =>
            sApart_pts (A i) (A k) (L i) (C i) (L k) (C k) hh hk2 hokhH.out hokk _ ((hPiw'.below (below_regrown wr d os)).grow (below_regrown wr d os).size) ((hPkw.below (below_regrown wr d os)).grow (below_regrown wr d os).size)
          obtain ⟨bi2, offi2, hai2, hbi2, f0, f1⟩ := pts_first hPiw' (by omega)
          obtain ⟨bk, offk, hak, hbk, g0, g1⟩ := pts_first hPkw (by omega)
          have f0r := cell_regrown f0
          have f1r := cell_regrown f1
          have g0r := cell_regrown g0
          have g1r := cell_regrown g1
          have ckr := cell_regrown ck
          obtain ⟨u0, u1⟩ := reg_2 (keep hny T)
          rw [hai] at hai2
          cases hai2
          rw [hai] at hI2 HA1
          rw [hak] at hI1 HA1 ckr
          rw [HQ.out] at f0r f1r
          have p2 : (0 : Int) < (L k : Int) := by omega
          have hbe : Hid (beB hh hk2 = (apL hh hk2 && (inI hk2 qq == -1) && (inI hh (ptAt hk2 0) == -1))) := by
            change _ = _; rw [Bool.eq_iff_iff, beB_iff, HQ.out]; simp only [Bool.and_eq_true, beq_iff_eq]
            constructor
            · rintro ⟨h1, h2, h3⟩; exact ⟨⟨h1, h3⟩, h2⟩
            · rintro ⟨⟨h1, h2⟩, h3⟩; exact ⟨h1, h3, h2⟩
          generalize inI hk2 qq = v1 at hI1 hbe
          generalize inI hh (ptAt hk2 0) = v3 at hI2 hbe
          generalize ptAt hk2 0 = q3 at *
          clear f0 f1 g0 g1 ck t0 t1
          cases hap : apL hh hk2
          · rw [hap] at HA1
            have e1 : Hid (plV o hs = false) := hnok (by rw [hbe.out, hap]; rfl)
            clear hnok hbe hrow' hap
            go_wp2_with fail
            refine wp_region_quiet_below (by kernel_rfl) (by kernel_rfl) ?_
            repeat (first | go_big_quiet_step (first | (go_at_call 37; with_reducible exact Calls.regrown_of (HA1.out _ _))))
            refine wpQuiet_nil ?_
            intro _ hw'
            obtain ⟨⟨dq, osq⟩, hw''⟩ := hw'
            subst hw''
            have J := below_regrown wr dq osq
            generalize grow (redrawn wr dq) osq = v4 at J ⊢
            go_wp2_with fail
            go_ret
            exact ⟨ret_bool e1.out.symm, bw_trans (bw_trans K hny) J⟩
          rw [hap] at HA1
          cases hv1 : v1 == -1
          · have hne : (v1 != -1) = true := by simp only [bne, hv1, Bool.not_false]
            have e1 : Hid (plV o hs = false) := hnok (by rw [hbe.out, hap, hv1]; rfl)
            clear hnok hbe hrow' hap
            go_wp2_with fail
            refine wp_region_quiet_below (by kernel_rfl) (by kernel_rfl) ?_
            repeat (first | go_big_quiet_step (first | (go_at_call 37; with_reducible exact Calls.regrown_of (HA1.out _ _)) | (go_at_call 36; with_reducible exact Calls.regrown_of (hI1.out _ _))))
            refine wpQuiet_nil ?_
            intro _ hw'
            obtain ⟨⟨dq, osq⟩, hw''⟩ := hw'
            subst hw''
            have J := below_regrown wr dq osq
            generalize grow (redrawn wr dq) osq = v4 at J ⊢
            go_wp2_with fail
            go_ret
            exact ⟨ret_bool e1.out.symm, bw_trans (bw_trans K hny) J⟩
          obtain rfl : v1 = -1 := by simpa using hv1
          cases hv3 : v3 == -1
          · have hne : (v3 != -1) = true := by simp only [bne, hv3, Bool.not_false]
            have e1 : Hid (plV o hs = false) := hnok (by rw [hbe.out, hap, hv3]; rfl)
            clear hnok hbe hrow' hap
            go_wp2_with fail
            refine wp_region_quiet_below (by kernel_rfl) (by kernel_rfl) ?_
            repeat (first | go_big_quiet_step (first | (go_at_call 37; with_reducible exact Calls.regrown_of (HA1.out _ _)) | (go_at_call 36; with_reducible exact Calls.regrown_of (hI1.out _ _)) | (go_at_call 36; with_reducible exact Calls.regrown_of (hI2.out _ _))))
            refine wpQuiet_nil ?_
            intro _ hw'
            obtain ⟨⟨dq, osq⟩, hw''⟩ := hw'
            subst hw''
            have J := below_regrown wr dq osq
            generalize grow (redrawn wr dq) osq = v4 at J ⊢
            go_wp2_with fail
            go_ret
            exact ⟨ret_bool e1.out.symm, bw_trans (bw_trans K hny) J⟩
          obtain rfl : v3 = -1 := by simpa using hv3
          have hrow2 : Hid (∀ j, j < k + 1 → beB hh (hs[j]?.getD []) = true) := hrow'.out (by rw [hbe.out, hap]; rfl)
          clear hnok hbe hrow' hap
          go_wp2_with fail
          refine wp_region_quiet_below (by kernel_rfl) (by kernel_rfl) ?_
          repeat (first | go_big_quiet_step (first | (go_at_call 37; with_reducible exact Calls.regrown_of (HA1.out _ _)) | (go_at_call 36; with_reducible exact Calls.regrown_of (hI1.out _ _)) | (go_at_call 36; with_reducible exact Calls.regrown_of (hI2.out _ _))))
          refine wpQuiet_nil ?_
          intro _ hw'
          obtain ⟨⟨dq, osq⟩, hw''⟩ := hw'
          subst hw''
          have J := below_regrown wr dq osq
          generalize grow (redrawn wr dq) osq = v4 at J ⊢
          go_wp2_with fail
          go_roundw
          case rel => exact ⟨k + 1, by omega, by simp, hrow2.out, bw_trans hny J⟩
          case measure => simp [intOf]; omega
end Go.Proofs.YtkncejcpeejkkaaGreatDoor
namespace Go.Proofs.YtkncejcpeejkkaaGreatDoor
open Go.RowKit Go.Sort

theorem foldl_take_succ {α β : Type} (f : β → α → β) (l : List α) (d : α) (s : β) (k : Nat) (hk : k < l.length) : (l.take (k + 1)).foldl f s = f ((l.take k).foldl f s) (l[k]?.getD d) := by
  rw [List.take_add_one, List.foldl_append]; simp [hk]
theorem plI_bd (o : List P2) (hs : List (List P2)) (p : P2) : -1 ≤ plI o hs p ∧ plI o hs p ≤ 1 := by
  unfold plI
  have : ∀ (hs : List (List P2)) (s : Int), -1 ≤ s ∧ s ≤ 1 → -1 ≤ hs.foldl (fun s h => min s (-(inI h p))) s ∧ hs.foldl (fun s h => min s (-(inI h p))) s ≤ 1 := by
    intro hs
    induction hs with
    | nil => intro s h; exact h
    | cons x xs ih => intro s h; exact ih _ (by dsimp only; have := inI_3 x p; omega)
  exact this hs _ (by have := inI_3 o p; omega)
set_option maxRecDepth 100000 in
set_option maxHeartbeats 4000000 in
theorem sPlI_ok (a ah : Option Addr) (la ca nh ch : Nat) (o : List P2) (hs : List (List P2)) (p : P2) (hv : plV o hs = true) (hp : ptB p.1 p.2 = true) (w : World) (h : Plt w a la ah nh o hs) :
    Calls Tryz.prog 40 #[.agg #[.slice a la ca, .slice ah nh ch], .agg #[.int .i64 p.1, .int .i64 p.2]] w fun e W' => e = .returned (.int .i64 (plI o hs p)) ∧ Below w.heap.size w W' := by
  obtain ⟨W, hW, BW, TP, T⟩ := boxes2 w (.cells #[.slice a la ca, .slice ah nh ch] 32) (.cells #[.int .i64 p.1, .int .i64 p.2] 43)
  have hPV := (plV_iff o hs).1 hv
  obtain ⟨hla, hP, hlen, A, L, C, hS, hH⟩ := h.below BW
  have HO := sInI_pts a la ca o p hPV.out hp W hP
  have HOK : Hid (∀ j, j < nh → okV (hs[j]?.getD []) = true) := fun j hj => hPV.ok _ (by rw [List.getElem?_eq_getElem (by omega), Option.getD_some]; exact List.getElem_mem _)
  have HL : Hid (hs.length = nh) := hlen
  have H0 : Hid (plI o (hs.take 0) p = inI o p) := rfl
  have HN : Hid (plI o (hs.take nh) p = plI o hs p) := by change _ = _; rw [← hlen, List.take_length]
  have HS : Hid (∀ k, k < nh → plI o (hs.take (k + 1)) p = min (plI o (hs.take k) p) (-(inI (hs[k]?.getD []) p))) := fun k hk => by
    unfold plI; exact foldl_take_succ _ hs [] _ k (by omega)
  have hnh : nh ≤ 2 := by have := hPV.len; omega
  clear hlen hPV hv h
  obtain ⟨t0, t1⟩ := blk_2 TP
  obtain ⟨u0, u1⟩ := blk_2 T
  have zP := blk_lt TP
  go_enter Tryz.func40, Tryz.ntmps40
  go_upto_region 1 with fail
  rw [← hW]
  clear hW
  go_wp2_with (go_at_call 36; refine HO.mono ?_; rintro e v ⟨rfl, J⟩)
  have K := bw_trans BW J
  replace TP := keep J TP
  replace T := keep J T
  replace hS := (hS.below J).grow J.size
  replace hH : ∀ j, j < nh → L j ≤ 1048576 ∧ Pts v.heap.size v (A j) (L j) (hs[j]?.getD []) := fun j hj => ⟨(hH j hj).1, ((hH j hj).2.below J).grow J.size⟩
  clear HO t0 t1 u0 u1 J zP
  go_loopw [5, 6] (fun s i wr => ∃ k : Nat, k ≤ nh ∧ i = .int .i64 k ∧ s = .int .i64 (plI o (hs.take k) p) ∧ Below v.heap.size v wr) (fun _ i _ => nh - (intOf i).toNat)
  case atStart => exact ⟨0, Nat.zero_le _, rfl, by rw [H0.out], bw_refl _⟩
  case round =>
    obtain ⟨k, hk, rfl, rfl, hnx⟩ := hrel
    have hbd := plI_bd o (hs.take k) p
    obtain ⟨t0, t1⟩ := blk_2 (keep hnx TP)
    have zT := blk_lt (keep hnx TP)
    by_cases hlt : k < nh
    case neg =>
      obtain rfl : k = nh := by omega
      rw [HN.out]
      go_wp2_with fail
      go_ret
      exact ⟨rfl, bw_trans K hnx⟩
    case pos =>
      rcases hS.below hnx with h0 | ⟨b, off, rfl, hbl, hcs⟩
      · omega
      have c0 := cell_regrown (hcs k hlt)
      clear hcs
      have i0 : (0 : Int) ≤ (k : Int) := Int.natCast_nonneg _
      have i1 : (k : Int) < (nh : Int) := by omega
      obtain ⟨hLk, hPk⟩ := hH k hlt
      have hokk := HOK.out k hlt
      have hst := HS.out k hlt
      have hPkw := (hPk.below hnx).grow hnx.size
      have y3 := inI_3 (hs[k]?.getD []) p
      have HW : Hid (∀ d os, Calls Tryz.prog 36 #[.slice (A k) (L k) (C k), .agg #[.int .i64 p.1, .int .i64 p.2]] (grow (redrawn wr d) os) fun e W' => e = .returned (.int .i64 (inI (hs[k]?.getD []) p)) ∧ Below (grow (redrawn wr d) os).heap.size (grow (redrawn wr d) os) W') := fun d os =>
        sInI_pts (A k) (L k) (C k) _ p hokk hp _ ((hPkw.below (below_regrown wr d os)).grow (below_regrown wr d os).size)
      obtain ⟨t0r, t1r⟩ := reg_2 (keep hnx TP)
      obtain ⟨u0r, u1r⟩ := reg_2 (keep hnx T)
      have hst' : Hid (plI o (hs.take (k + 1)) p = min (plI o (hs.take k) p) (-(inI (hs[k]?.getD []) p))) := hst
      clear hst hokk hPk hPkw
      generalize inI (hs[k]?.getD []) p = u1 at *
      generalize plI o (hs.take k) p = u at *
      have nu : IntKind.i64.wrap (-u1) = -u1 := wrap_small (by omega) (by omega)
      by_cases hm : -u1 < u
      · have hmin : min u (-u1) = -u1 := by omega
        go_wp2_with fail
        refine wp_region_quiet_below (by kernel_rfl) (by kernel_rfl) ?_
        repeat (first | go_big_quiet_step (first | (go_at_call 36; with_reducible exact Calls.regrown_of (HW.out _ _))))
        refine wpQuiet_nil ?_
        intro _ hw'
        obtain ⟨⟨dq, osq⟩, hw''⟩ := hw'
        subst hw''
        have J := below_regrown wr dq osq
        generalize grow (redrawn wr dq) osq = v2 at J ⊢
        go_wp2_with fail
        go_roundw
        case rel => exact ⟨k + 1, by omega, by simp, by rw [hst'.out, hmin], bw_trans hnx J⟩
        case measure => simp [intOf]; omega
      · have hmin : min u (-u1) = u := by omega
        go_wp2_with fail
        refine wp_region_quiet_below (by kernel_rfl) (by kernel_rfl) ?_
        repeat (first | go_big_quiet_step (first | (go_at_call 36; with_reducible exact Calls.regrown_of (HW.out _ _))))
        refine wpQuiet_nil ?_
        intro _ hw'
        obtain ⟨⟨dq, osq⟩, hw''⟩ := hw'
        subst hw''
        have J := below_regrown wr dq osq
        generalize grow (redrawn wr dq) osq = v2 at J ⊢
        go_wp2_with fail
        go_roundw
        case rel => exact ⟨k + 1, by omega, by simp, by rw [hst'.out, hmin], bw_trans hnx J⟩
        case measure => simp [intOf]; omega
end Go.Proofs.YtkncejcpeejkkaaGreatDoor
namespace Go.Proofs.YtkncejcpeejkkaaGreatDoor
open Go.RowKit Go.Shelf Go.Sort
attribute [local go_sem] Oper.semAt_some

/-- The cells of the edges that have come. -/
def segF (pts : List P2) (pre : List (Fin pts.length)) : List Value := pre.flatMap fun k => seg4 (ptAt pts k.1) (ptAt pts (nxt pts k.1))
theorem segF_snoc (pts : List P2) (pre : List (Fin pts.length)) (k : Fin pts.length) : segF pts (pre ++ [k]) = segF pts pre ++ seg4 (ptAt pts k.1) (ptAt pts (nxt pts k.1)) := by simp [segF]
theorem segR (pts : List P2) (n : Nat) : ((List.range n).flatMap fun k => seg4 (ptAt pts k) (ptAt pts (nxt pts k))) = segCells pts n := by
  induction n with
  | zero => rfl
  | succ n ih => rw [List.range_succ, List.flatMap_append, ih]; simp [segCells]
theorem segF_all (pts : List P2) : segF pts (List.finRange pts.length) = segCells pts pts.length := by
  rw [← segR]
  have : List.range pts.length = (List.finRange pts.length).map fun k => k.1 := by
    apply List.ext_getElem
    · simp
    · intro i h1 h2; simp
  rw [this, List.flatMap_map]; rfl
theorem own_base {W : World} {base base' : Nat} {e : TypeId} {size n : Nat} {v : Value} {xs : List Value} (h : W.ownsRow base e size v n xs) (hb : base' ≤ base) : W.ownsRow base' e size v n xs :=
  ⟨h.1, h.2.imp id fun ⟨g, c, cur, e1, h1, r⟩ => ⟨g, c, cur, e1, Nat.le_trans hb h1, r⟩⟩
/-- What LoopEdges answers. -/
def EdgesAns (base : Nat) (pts : List P2) (len : Nat) (e : Ending) (W' : World) : Prop :=
  (okV pts = false ∧ e = .returned (.slice none 0 0)) ∨ (okV pts = true ∧ ∃ vv, e = .returned vv ∧ W'.ownsRow base 75 4 vv len (segCells pts len))
/-- What the specification's answers. -/
def SEdgesAns (base : Nat) (pts : List P2) (len : Nat) (e : Ending) (W' : World) : Prop :=
  ∃ vv, e = .returned vv ∧ W'.ownsRow base 75 4 vv (if okV pts then len else 0) (segCells pts (if okV pts then len else 0))
end Go.Proofs.YtkncejcpeejkkaaGreatDoor
namespace Go.Proofs.YtkncejcpeejkkaaGreatDoor
open Go.RowKit Go.Shelf Go.Sort
attribute [local go_sem] Oper.semAt_some

end Go.Proofs.YtkncejcpeejkkaaGreatDoor
namespace Go.Proofs.YtkncejcpeejkkaaGreatDoor
open Go.RowKit Go.Sort

/-- The edges that are told of a loop. -/
def edgV (l : List P2) : List (P2 × P2) := if okV l then segsL l else []
theorem edgV_len (l : List P2) : (edgV l).length ≤ 8 := by
  unfold edgV
  cases h : okV l
  · simp
  · have := ((okV_iff l).1 h).hi; rw [if_pos rfl, segsL_len]; omega
theorem PtBlk.own {W : World} {g c n : Nat} {l : List P2} (h : PtBlk W g c l n) : Own W g (c * 2) 43 := by obtain ⟨cur, h, hs, _⟩ := h; exact ⟨cur, h, hs⟩
end Go.Proofs.YtkncejcpeejkkaaGreatDoor
namespace Go.Proofs.YtkncejcpeejkkaaGreatDoor
open Go.RowKit Go.Shelf Go.Sort

end Go.Proofs.YtkncejcpeejkkaaGreatDoor
namespace Go.Proofs.YtkncejcpeejkkaaGreatDoor
open Go.RowKit Go.Sort

theorem sEdges_pts (a1 : Option Addr) (len1 cap1 : Nat) (l1 : List P2) (ok1 : okV l1 = true) (w : World) (hP1 : Pts w.heap.size w a1 len1 l1) :
    Calls Tryz.prog 38 #[.slice a1 len1 cap1] w fun e w' => ∃ g c, e = .returned (.slice (some ⟨g, 0, none⟩) len1 c) ∧ w'.ownsRow w.heap.size 75 4 (.slice (some ⟨g, 0, none⟩) len1 c) len1 (cellsS (segsL l1)) ∧ Below w.heap.size w w' := by
  have h1 := okV_pos ok1
  obtain ⟨e1, c1⟩ := hP1
  rcases c1 with h0 | ⟨b1, off1, rfl, hb1, hc1⟩
  · omega
  refine (sEdges_ok b1 off1 len1 cap1 l1 w e1 (by omega) (by omega) hb1 hc1).mono ?_
  rintro e w' ⟨v, rfl, ho, J⟩
  rw [← e1, ← segsL_cells, e1] at ho
  have ho' := ho
  rcases ho.2 with ⟨_, h0⟩ | ⟨g, c, cur, rfl, _⟩
  · omega
  · exact ⟨g, c, rfl, ho', J⟩
theorem cellsS_one (ss : List (P2 × P2)) : ∀ u ∈ cellsS ss, u.oneCell' = true := by
  intro u hu
  simp only [cellsS, List.mem_flatMap, seg4] at hu
  obtain ⟨s, _, hs⟩ := hu
  simp at hs
  rcases hs with rfl | rfl | rfl | rfl <;> rfl
set_option maxRecDepth 100000 in
set_option maxHeartbeats 4000000 in
theorem l11Edges_ok (a ah : Option Addr) (la ca nh ch : Nat) (o : List P2) (hs : List (List P2)) (hv : plV o hs = true) (w : World) (h : Plt w a la ah nh o hs) :
    Calls Tryz.prog 20 #[.agg #[.slice a la ca, .slice ah nh ch]] w fun e W' => ∃ v, e = .returned v ∧ W'.ownsRow w.heap.size 75 4 v (plE o hs).length (cellsS (plE o hs)) ∧ Below w.heap.size w W' := by
  obtain ⟨i0, hi0, hz0, hz1, hz2⟩ := info_parts Tryz.infoSeg
  obtain ⟨W, hW, BW, TP⟩ : ∃ W, W = w.alloc (.cells #[.slice a la ca, .slice ah nh ch] 32) ∧ Below w.heap.size w W ∧ W.heap[w.heap.size]? = some (.cells #[.slice a la ca, .slice ah nh ch] 32 (0, 0)) := ⟨_, rfl, (by repeat (first | exact bw_refl _ | assumption | apply bw_drewN | apply bw_drew | apply bw_alloc | refine bw_set ?_ (by simp) _)), heap_new _ _⟩
  have hPV := (plV_iff o hs).1 hv
  obtain ⟨hla, hP, hlen, A, L, C, hS, hH⟩ := h.below BW
  have HO := sEdges_pts a la ca o hPV.out W hP
  have HOK : Hid (∀ j, j < nh → okV (hs[j]?.getD []) = true) := fun j hj => hPV.ok _ (by rw [List.getElem?_eq_getElem (by omega), Option.getD_some]; exact List.getElem_mem _)
  have HE : Hid (plE o hs = segsL o ++ (hs.take nh).flatMap segsL) := by change _ = _; unfold plE; rw [hv, if_pos rfl, ← hlen, List.take_length]
  have HT : Hid (∀ k, k < nh → (hs.take (k + 1)).flatMap segsL = (hs.take k).flatMap segsL ++ segsL (hs[k]?.getD [])) := fun k hk => by
    rw [List.take_add_one, List.flatMap_append, List.getElem?_eq_getElem (by omega)]; simp
  have HB : Hid (∀ k, k ≤ nh → (segsL o ++ (hs.take k).flatMap segsL).length ≤ 24) := fun k hk => by
    have h0 := (okV_pos hPV.out).2
    have h2 := flat_len (hs.take k) (fun x hx => (okV_pos (hPV.ok x (List.mem_of_mem_take hx))).2)
    have h3 := hPV.len
    rw [List.length_append, segsL_len]; rw [List.length_take] at h2; omega
  have hl0 : Hid (la = (segsL o).length) := by change _ = _; rw [segsL_len]; exact hP.1.symm
  have hnh : nh ≤ 2 := by have := hPV.len; omega
  clear hlen hPV hv h
  obtain ⟨t0, t1⟩ := blk_2 TP
  have zP := blk_lt TP
  go_enter Tryz.func20, Tryz.ntmps20
  go_upto_region 1 with fail
  rw [← hW]
  clear hW
  go_wp2_with fail
  refine HO.mono ?_
  rintro e v ⟨g0, c0, rfl, ho0, J⟩
  have ho1 : v.ownsRow W.heap.size 75 4 (.slice (some ⟨g0, 0, none⟩) la c0) (segsL o ++ (hs.take 0).flatMap segsL).length (cellsS (segsL o ++ (hs.take 0).flatMap segsL)) := by
    have e0 := hl0.out; simp only [List.take_zero, List.flatMap_nil, List.append_nil]; rw [← e0]; exact ho0
  clear HO t0 t1 ho0
  go_wp2_with fail
  go_loopw [3, 4] (fun out i wr => ∃ k : Nat, k ≤ nh ∧ i = .int .i64 k ∧ wr.ownsRow W.heap.size 75 4 out (segsL o ++ (hs.take k).flatMap segsL).length (cellsS (segsL o ++ (hs.take k).flatMap segsL)) ∧ Below W.heap.size W wr) (fun _ i _ => nh - (intOf i).toNat)
  case atStart => exact ⟨0, Nat.zero_le _, rfl, ho1, J⟩
  case round =>
    obtain ⟨k, hk, rfl, hown, hnx⟩ := hrel
    obtain ⟨t0, t1⟩ := blk_2 (keep hnx TP)
    have zz := hnx.size
    by_cases hlt : k < nh
    case neg =>
      obtain rfl : nh = k := by omega
      rw [← HE.out] at hown
      go_wp2_with fail
      go_ret
      exact ⟨_, rfl, own_base hown BW.size, bw_trans BW hnx⟩
    case pos =>
      rcases hS.below hnx with h0 | ⟨b, off, rfl, hbl, hcs⟩
      · omega
      have c1 := hcs k hlt
      clear hcs
      have j0 : (0 : Int) ≤ (k : Int) := Int.natCast_nonneg _
      have j1 : (k : Int) < (nh : Int) := by omega
      obtain ⟨hLk, hPk⟩ := hH k hlt
      have hokk := HOK.out k hlt
      have hcall := sEdges_pts (A k) (L k) (C k) _ hokk wr ((hPk.below hnx).grow hnx.size)
      have hlk : (segsL (hs[k]?.getD [])).length = L k := by rw [segsL_len]; exact hPk.1
      have hbk := HB.out k hk
      have hbk1 := HB.out (k + 1) hlt
      rw [HT.out k hlt, ← List.append_assoc, List.length_append, hlk] at hbk1
      have hl1 : (segsL o ++ (hs.take k).flatMap segsL).length + L k = (segsL o ++ (hs.take (k + 1)).flatMap segsL).length := by rw [HT.out k hlt, ← List.append_assoc, List.length_append (bs := segsL _), hlk]
      have hc1 : cellsS (segsL o ++ (hs.take (k + 1)).flatMap segsL) = cellsS (segsL o ++ (hs.take k).flatMap segsL) ++ cellsS (segsL (hs[k]?.getD [])) := by rw [HT.out k hlt, ← List.append_assoc, cellsS_append _ (segsL _)]
      have HL1 : Hid ((segsL o ++ (hs.take k).flatMap segsL).length + L k = (segsL o ++ (hs.take (k + 1)).flatMap segsL).length) := hl1
      have HC1 : Hid (cellsS (segsL o ++ (hs.take (k + 1)).flatMap segsL) = cellsS (segsL o ++ (hs.take k).flatMap segsL) ++ cellsS (segsL (hs[k]?.getD []))) := hc1
      have HLK : Hid ((cellsS (segsL (hs[k]?.getD []))).length = L k * 4) := by change _ = _; rw [cellsS_len, hlk]
      have hm1 : (segsL o ++ (hs.take k).flatMap segsL).length + L k ≤ 24 := by rw [hl1]; exact HB.out (k + 1) hlt
      clear hl1 hc1 hbk1 hlk
      go_wp2_with (first
        | (go_at_call 38; refine hcall.mono ?_; rintro e w7 ⟨g7, c7, rfl, ho7, J7⟩; have hown7 := hown.kept (w' := w7) (row := none) ⟨J7.os, J7.tape, J7.output, J7.size, fun j hj _ => J7.block j hj⟩ (Classical.em _); have hn7 := bw_trans hnx J7; have zz7 := hn7.size)
        | (at_builtin; refine wpList_append_own_wide _ rfl _ _ _ rfl W.heap.size 75 i0 _ 4 32 Tryz.underlying50 hi0 hz0 hz1 hz2 rfl (by omega) _ _ _ rfl hown7 ⟨g7, 0, none⟩ (L k) c7 (cellsS (segsL (hs[k]?.getD []))) rfl HLK.out (ho7.cells (g := g7) rfl) (cellsS_one _) (by simp [maxLen] at hm1 ⊢; omega) (by omega) (by omega) ?_; intro v8 w8 hown8 hgr8 hnil8))
      go_roundw
      case rel => exact ⟨k + 1, by omega, by simp, by rw [← HL1.out, HC1.out]; exact hown8, hn7.grown hgr8 zz7 (fun j e => (hown7.lt j e).1)⟩
      case measure => simp [intOf]; omega
end Go.Proofs.YtkncejcpeejkkaaGreatDoor
namespace Go.Proofs.YtkncejcpeejkkaaGreatDoor
open Go.RowKit Go.Sort

theorem cT6 {W : World} {p m n k l : Nat} {x y z u : Value} {a0 a1 a2 a3 a4 a5 : Addr} {v0 v1 v2 v3 v4 v5 : Value} (h : W.cell? a0 = some v0 ∧ W.cell? a1 = some v1 ∧ W.cell? a2 = some v2 ∧ W.cell? a3 = some v3 ∧ W.cell? a4 = some v4 ∧ W.cell? a5 = some v5) (n0 : a0.block ≠ p) (n1 : a1.block ≠ p) (n2 : a2.block ≠ p) (n3 : a3.block ≠ p) (n4 : a4.block ≠ p) (n5 : a5.block ≠ p) : ((((W.setCell ⟨p, m, none⟩ x).setCell ⟨p, n, none⟩ y).setCell ⟨p, k, none⟩ z).setCell ⟨p, l, none⟩ u).cell? a0 = some v0 ∧ ((((W.setCell ⟨p, m, none⟩ x).setCell ⟨p, n, none⟩ y).setCell ⟨p, k, none⟩ z).setCell ⟨p, l, none⟩ u).cell? a1 = some v1 ∧ ((((W.setCell ⟨p, m, none⟩ x).setCell ⟨p, n, none⟩ y).setCell ⟨p, k, none⟩ z).setCell ⟨p, l, none⟩ u).cell? a2 = some v2 ∧ ((((W.setCell ⟨p, m, none⟩ x).setCell ⟨p, n, none⟩ y).setCell ⟨p, k, none⟩ z).setCell ⟨p, l, none⟩ u).cell? a3 = some v3 ∧ ((((W.setCell ⟨p, m, none⟩ x).setCell ⟨p, n, none⟩ y).setCell ⟨p, k, none⟩ z).setCell ⟨p, l, none⟩ u).cell? a4 = some v4 ∧ ((((W.setCell ⟨p, m, none⟩ x).setCell ⟨p, n, none⟩ y).setCell ⟨p, k, none⟩ z).setCell ⟨p, l, none⟩ u).cell? a5 = some v5 := cS6 (cS6 h n0 n1 n2 n3 n4 n5) n0 n1 n2 n3 n4 n5
theorem cellL {W : World} {o o' : Obj} {a : Addr} {v : Value} (h : (W.alloc o).cell? a = some v) (hb : a.block < W.heap.size) : (W.alloc o').cell? a = some v := by
  rw [← h]
  exact World.cell?_of_block (w := W.alloc o) ((heap_old W o' hb).trans (heap_old W o hb).symm)
theorem cL6 {W : World} {o o' : Obj} {a0 a1 a2 a3 a4 a5 : Addr} {v0 v1 v2 v3 v4 v5 : Value} (h : (W.alloc o).cell? a0 = some v0 ∧ (W.alloc o).cell? a1 = some v1 ∧ (W.alloc o).cell? a2 = some v2 ∧ (W.alloc o).cell? a3 = some v3 ∧ (W.alloc o).cell? a4 = some v4 ∧ (W.alloc o).cell? a5 = some v5) (n0 : a0.block < W.heap.size) (n1 : a1.block < W.heap.size) (n2 : a2.block < W.heap.size) (n3 : a3.block < W.heap.size) (n4 : a4.block < W.heap.size) (n5 : a5.block < W.heap.size) : (W.alloc o').cell? a0 = some v0 ∧ (W.alloc o').cell? a1 = some v1 ∧ (W.alloc o').cell? a2 = some v2 ∧ (W.alloc o').cell? a3 = some v3 ∧ (W.alloc o').cell? a4 = some v4 ∧ (W.alloc o').cell? a5 = some v5 :=
  ⟨cellL h.1 n0, cellL h.2.1 n1, cellL h.2.2.1 n2, cellL h.2.2.2.1 n3, cellL h.2.2.2.2.1 n4, cellL h.2.2.2.2.2 n5⟩
theorem cL8 {W : World} {o o' : Obj} {a0 a1 a2 a3 a4 a5 a6 a7 : Addr} {v0 v1 v2 v3 v4 v5 v6 v7 : Value} (h : (W.alloc o).cell? a0 = some v0 ∧ (W.alloc o).cell? a1 = some v1 ∧ (W.alloc o).cell? a2 = some v2 ∧ (W.alloc o).cell? a3 = some v3 ∧ (W.alloc o).cell? a4 = some v4 ∧ (W.alloc o).cell? a5 = some v5 ∧ (W.alloc o).cell? a6 = some v6 ∧ (W.alloc o).cell? a7 = some v7) (n0 : a0.block < W.heap.size) (n1 : a1.block < W.heap.size) (n2 : a2.block < W.heap.size) (n3 : a3.block < W.heap.size) (n4 : a4.block < W.heap.size) (n5 : a5.block < W.heap.size) (n6 : a6.block < W.heap.size) (n7 : a7.block < W.heap.size) : (W.alloc o').cell? a0 = some v0 ∧ (W.alloc o').cell? a1 = some v1 ∧ (W.alloc o').cell? a2 = some v2 ∧ (W.alloc o').cell? a3 = some v3 ∧ (W.alloc o').cell? a4 = some v4 ∧ (W.alloc o').cell? a5 = some v5 ∧ (W.alloc o').cell? a6 = some v6 ∧ (W.alloc o').cell? a7 = some v7 :=
  ⟨cellL h.1 n0, cellL h.2.1 n1, cellL h.2.2.1 n2, cellL h.2.2.2.1 n3, cellL h.2.2.2.2.1 n4, cellL h.2.2.2.2.2.1 n5, cellL h.2.2.2.2.2.2.1 n6, cellL h.2.2.2.2.2.2.2 n7⟩
end Go.Proofs.YtkncejcpeejkkaaGreatDoor
namespace Go.Proofs.YtkncejcpeejkkaaGreatDoor
open Go.RowKit Go.Sort

theorem inR_r (r : Int) : inR r 1 9 = rV r := by
  unfold rV; rw [Bool.eq_iff_iff]; simp [inR]
set_option maxHeartbeats 1000000 in
theorem sNear_any (ax ay bx b_y px py r : Int) (w : World) (hr : 1 ≤ r ∧ r ≤ 9) (gs : sgB ax ay bx b_y = true) (gp : ptB px py = true) :
    Calls Tryz.prog 39 #[.agg #[.int .i64 ax, .int .i64 ay, .int .i64 bx, .int .i64 b_y], .int .i64 r, .agg #[.int .i64 px, .int .i64 py]] w fun e w' => e = .returned (.bool (nearI ((ax, ay), (bx, b_y)) r (px, py))) ∧ Below w.heap.size w w' := by
  obtain ⟨pa, pb, _⟩ := sg_parts gs
  obtain ⟨r1, r9⟩ := hr
  unfold nearI
  dsimp only
  by_cases h : dt ax ay bx b_y px py ≤ 0
  · rw [if_pos h]
    go_enter Tryz.func39, Tryz.ntmps39
    go_wp2_with fail
    refine (sDot_any _ _ _ _ _ _ _ pa pb gp).mono ?_
    rintro e w1 ⟨rfl, J⟩
    obtain ⟨hc, hf⟩ := bcell J
    go_wp2_with fail
    refine (sDot_any _ _ _ _ _ _ _ pa pb pb).mono ?_
    rintro e w1 ⟨rfl, J2⟩
    replace J := bw_trans J J2
    clear hc hf J2
    obtain ⟨hc, hf⟩ := bcell J
    go_wp2_with fail
    refine (sDot_any _ _ _ _ _ _ _ pa gp gp).mono ?_
    rintro e w1 ⟨rfl, J2⟩
    replace J := bw_trans J J2
    clear hc hf J2
    obtain ⟨hc, hf⟩ := bcell J
    go_wp2_with fail
    go_ret
    exact ⟨rfl, bw_trans (by repeat (first | exact bw_refl _ | assumption | apply bw_drewN | apply bw_drew | apply bw_alloc | refine bw_set ?_ (by simp) _)) J⟩
  · rw [if_neg h]
    by_cases h2 : dt ax ay bx b_y bx b_y ≤ dt ax ay bx b_y px py
    · rw [if_pos h2]
      go_enter Tryz.func39, Tryz.ntmps39
      go_wp2_with fail
      refine (sDot_any _ _ _ _ _ _ _ pa pb gp).mono ?_
      rintro e w1 ⟨rfl, J⟩
      obtain ⟨hc, hf⟩ := bcell J
      go_wp2_with fail
      refine (sDot_any _ _ _ _ _ _ _ pa pb pb).mono ?_
      rintro e w1 ⟨rfl, J2⟩
      replace J := bw_trans J J2
      clear hc hf J2
      obtain ⟨hc, hf⟩ := bcell J
      go_wp2_with fail
      refine (sDot_any _ _ _ _ _ _ _ pb gp gp).mono ?_
      rintro e w1 ⟨rfl, J2⟩
      replace J := bw_trans J J2
      clear hc hf J2
      obtain ⟨hc, hf⟩ := bcell J
      go_wp2_with fail
      go_ret
      exact ⟨rfl, bw_trans (by repeat (first | exact bw_refl _ | assumption | apply bw_drewN | apply bw_drew | apply bw_alloc | refine bw_set ?_ (by simp) _)) J⟩
    · rw [if_neg h2]
      have d1 := crs_bd pa pb gp
      have d2 := prod_bd2 d1.1 d1.2 d1.1 d1.2
      have d3 := dt_bd pa pb pb
      have d4 : 0 < dt ax ay bx b_y bx b_y := dt_self_pos (sg_parts gs).2.2
      have d5 : IntKind.i64.wrap (crs ax ay bx b_y px py * crs ax ay bx b_y px py) = crs ax ay bx b_y px py * crs ax ay bx b_y px py := wrap_small (by omega) (by omega)
      have d6 : IntKind.i64.wrap (r * dt ax ay bx b_y bx b_y) = r * dt ax ay bx b_y bx b_y := by
        have e1 := Int.mul_le_mul_of_nonneg_right r9 (show 0 ≤ dt ax ay bx b_y bx b_y by omega)
        have e2 := Int.mul_nonneg (show 0 ≤ r by omega) (show 0 ≤ dt ax ay bx b_y bx b_y by omega)
        exact wrap_small (by omega) (by omega)
      go_enter Tryz.func39, Tryz.ntmps39
      go_wp2_with fail
      refine (sDot_any _ _ _ _ _ _ _ pa pb gp).mono ?_
      rintro e w1 ⟨rfl, J⟩
      obtain ⟨hc, hf⟩ := bcell J
      go_wp2_with fail
      refine (sDot_any _ _ _ _ _ _ _ pa pb pb).mono ?_
      rintro e w1 ⟨rfl, J2⟩
      replace J := bw_trans J J2
      clear hc hf J2
      obtain ⟨hc, hf⟩ := bcell J
      go_wp2_with fail
      refine (sCross_any _ _ _ _ _ _ _ pa pb gp).mono ?_
      rintro e w1 ⟨rfl, J2⟩
      replace J := bw_trans J J2
      clear hc hf J2
      obtain ⟨hc, hf⟩ := bcell J
      go_wp2_with fail
      go_ret
      exact ⟨rfl, bw_trans (by repeat (first | exact bw_refl _ | assumption | apply bw_drewN | apply bw_drew | apply bw_alloc | refine bw_set ?_ (by simp) _)) J⟩
end Go.Proofs.YtkncejcpeejkkaaGreatDoor
namespace Go.Proofs.YtkncejcpeejkkaaGreatDoor
open Go.RowKit Go.Sort

set_option maxRecDepth 100000 in
set_option maxHeartbeats 4000000 in
theorem sFits_ok (a ah : Option Addr) (la ca nh ch : Nat) (o : List P2) (hs : List (List P2)) (g len cap : Nat) (ss : List (P2 × P2)) (r : Int) (p : P2) (w : World) (h : Plt w a la ah nh o hs) (hv : plV o hs = true) (hr : rV r = true) (hp : ptB p.1 p.2 = true) (hS : SRow w g ss) (zg : g < w.heap.size) (hl : ss.length = len) (h2 : len ≤ 1000) (hok : ∀ s ∈ ss, sgP s.1 s.2 = true) :
    Calls Tryz.prog 22 #[.agg #[.slice a la ca, .slice ah nh ch], .slice (some ⟨g, 0, none⟩) len cap, .int .i64 r, .agg #[.int .i64 p.1, .int .i64 p.2]] w fun e W' => e = .returned (.bool ((ss.all fun s => !nearI s r p) && decide (plI o hs p = 1))) ∧ Below w.heap.size w W' := by
  obtain ⟨W, hW, BW, TP, T⟩ := boxes2 w (.cells #[.slice a la ca, .slice ah nh ch] 32) (.cells #[.int .i64 p.1, .int .i64 p.2] 43)
  have hr' := (rV_iff r).1 hr
  obtain ⟨F, hF⟩ : ∃ F : Nat → Bool, F = fun k => nearI (sAt ss k) r p := ⟨_, rfl⟩
  have HF : Hid (∀ k, k < len → ∀ w, Calls Tryz.prog 39 #[.agg #[.int .i64 (sAt ss k).1.1, .int .i64 (sAt ss k).1.2, .int .i64 (sAt ss k).2.1, .int .i64 (sAt ss k).2.2], .int .i64 r, .agg #[.int .i64 p.1, .int .i64 p.2]] w fun e w' => e = .returned (.bool (F k)) ∧ Below w.heap.size w w') := fun k hk w => by
    rw [hF]
    exact sNear_any _ _ _ _ _ _ r w hr' (hok _ (sAt_mem (by omega))) hp
  have HA : Hid ((ss.all fun s => !nearI s r p) = true ↔ ∀ k, k < len → F k = false) := by
    change _ ↔ _
    rw [hF, List.all_eq_true]
    constructor
    · intro h k hk; simpa using h _ (sAt_mem (show k < ss.length by omega))
    · intro h s hs
      obtain ⟨k, hk, rfl⟩ := List.getElem_of_mem hs
      have this : nearI (sAt ss k) r p = false := h k (by omega)
      rw [show sAt ss k = ss[k] by unfold sAt; rw [List.getElem?_eq_getElem hk, Option.getD_some]] at this
      rw [this]; rfl
  have HS : Hid (∀ k, k < len → w.cell? ⟨g, k * 4, none⟩ = some (.int .i64 (sAt ss k).1.1) ∧ w.cell? ⟨g, k * 4 + 1, none⟩ = some (.int .i64 (sAt ss k).1.2) ∧ w.cell? ⟨g, k * 4 + 2, none⟩ = some (.int .i64 (sAt ss k).2.1) ∧ w.cell? ⟨g, k * 4 + 3, none⟩ = some (.int .i64 (sAt ss k).2.2)) := fun k hk => hS k (by omega)
  have HP : Hid (∀ V, Below w.heap.size w V → Calls Tryz.prog 40 #[.agg #[.slice a la ca, .slice ah nh ch], .agg #[.int .i64 p.1, .int .i64 p.2]] V fun e W' => e = .returned (.int .i64 (plI o hs p)) ∧ Below V.heap.size V W') := fun V hV => sPlI_ok a ah la ca nh ch o hs p hv hp V (h.below hV)
  generalize (ss.all fun s => !nearI s r p) = al at *
  generalize plI o hs p = u at *
  clear hF hok hl hS hr hv h hp
  go_enter Tryz.func22, Tryz.ntmps22
  go_upto_region 1 with fail
  rw [← hW]
  clear hW
  go_wp2_with fail
  go_loopw [9] (fun i wr => ∃ k : Nat, k ≤ len ∧ i = .int .i64 k ∧ (∀ j, j < k → F j = false) ∧ Below W.heap.size W wr) (fun i _ => len - (intOf i).toNat)
  case atStart => exact ⟨0, Nat.zero_le _, rfl, fun j hj => absurd hj (Nat.not_lt_zero _), bw_refl _⟩
  case round =>
    obtain ⟨k, hk, rfl, hb, hnx⟩ := hrel
    have HB : Hid (∀ j, j < k → F j = false) := hb
    clear hb
    have KW := bw_trans BW hnx
    have zn := hnx.size
    by_cases hlt : k < len
    case pos =>
      obtain ⟨s0, s1, s2, s3⟩ := HS.out k hlt
      obtain ⟨d0, d1, d2, d3⟩ := regrow4 ⟨(KW.cell (p := ⟨g, k * 4, none⟩) zg).trans s0, (KW.cell (p := ⟨g, k * 4 + 1, none⟩) zg).trans s1, (KW.cell (p := ⟨g, k * 4 + 2, none⟩) zg).trans s2, (KW.cell (p := ⟨g, k * 4 + 3, none⟩) zg).trans s3⟩
      obtain ⟨t0, t1⟩ := reg_2 (keep hnx T)
      have i0 : (0 : Int) ≤ (k : Int) := Int.natCast_nonneg _
      have i1 : (k : Int) < (len : Int) := by omega
      have i2 : (k : Int) ≤ 1000 := by omega
      have hX := HF.out k hlt
      have HX : Hid (∀ w, Calls Tryz.prog 39 #[.agg #[.int .i64 (sAt ss k).1.1, .int .i64 (sAt ss k).1.2, .int .i64 (sAt ss k).2.1, .int .i64 (sAt ss k).2.2], .int .i64 r, .agg #[.int .i64 p.1, .int .i64 p.2]] w fun e w' => e = .returned (.bool (F k)) ∧ Below w.heap.size w w') := hX
      clear hX s0 s1 s2 s3
      obtain ⟨bk, hbk⟩ : ∃ bk, F k = bk := ⟨_, rfl⟩
      have HK : Hid (F k = bk) := hbk
      rw [hbk] at HX
      clear hbk
      cases bk
      · go_wp2_with fail
        refine wp_region_quiet_below (by kernel_rfl) (by kernel_rfl) ?_
        repeat (first | go_big_quiet_step (first | (go_at_call 39; with_reducible exact Calls.regrown_of (HX.out _))))
        refine wpQuiet_nil ?_
        intro _ hw'
        obtain ⟨⟨dq, osq⟩, hw''⟩ := hw'
        subst hw''
        have J := below_regrown wr dq osq
        generalize grow (redrawn wr dq) osq = v2 at J ⊢
        go_wp2_with fail
        go_roundw
        case rel =>
          refine ⟨k + 1, by omega, by simp, fun j hj => ?_, bw_trans hnx J⟩
          rcases Nat.lt_or_ge j k with hjk | hjk
          · exact HB.out j hjk
          · obtain rfl : j = k := by omega
            exact HK.out
        case measure => simp [intOf]; omega
      · have e1 : Hid (al = false) := by
          change _ = _
          rw [Bool.eq_false_iff]
          intro hc
          have := HA.out.1 hc k hlt
          rw [HK.out] at this; cases this
        go_wp2_with fail
        refine wp_region_quiet_below (by kernel_rfl) (by kernel_rfl) ?_
        repeat (first | go_big_quiet_step (first | (go_at_call 39; with_reducible exact Calls.regrown_of (HX.out _))))
        refine wpQuiet_nil ?_
        intro _ hw'
        obtain ⟨⟨dq, osq⟩, hw''⟩ := hw'
        subst hw''
        have J := below_regrown wr dq osq
        generalize grow (redrawn wr dq) osq = v2 at J ⊢
        go_wp2_with fail
        go_ret
        exact ⟨by rw [e1.out]; rfl, bw_trans KW J⟩
    case neg =>
      obtain rfl : len = k := by omega
      have e1 : Hid (al = true) := HA.out.2 HB.out
      have hc := HP.out wr KW
      obtain ⟨p0, p1⟩ := blk_2 (keep hnx TP)
      obtain ⟨t0, t1⟩ := blk_2 (keep hnx T)
      clear HA HF HB
      go_wp2_with fail
      refine hc.mono ?_
      rintro e v2 ⟨rfl, J⟩
      go_wp2_with fail
      go_ret
      exact ⟨by rw [e1.out]; first | rfl | simp, bw_trans KW J⟩
end Go.Proofs.YtkncejcpeejkkaaGreatDoor
namespace Go.Proofs.YtkncejcpeejkkaaGreatDoor
open Go.RowKit Go.Sort

/-- A row of edges that a call made itself. -/
theorem row_of_owns' {base : Nat} {W : World} {v : Value} {ss : List (P2 × P2)} (h : W.ownsRow base 75 4 v ss.length (cellsS ss)) (hs : 0 < ss.length) : ∃ g c, v = .slice (some ⟨g, 0, none⟩) ss.length c ∧ g < W.heap.size ∧ SRow W g ss := by
  have := AnsS.of_owns h rfl
  rcases this with ⟨rfl, a, c, rfl⟩ | ⟨g, c, rfl, _, _, _, hO, hS⟩
  · simp at hs
  · exact ⟨g, c, rfl, hO.lt, hS⟩
set_option maxRecDepth 100000 in
set_option maxHeartbeats 4000000 in
theorem sToolFits_any (a ah : Option Addr) (la ca nh ch : Nat) (o : List P2) (hs : List (List P2)) (r : Int) (p : P2) (w : World) (h : Plt w a la ah nh o hs) :
    Calls Tryz.prog 74 #[.agg #[.slice a la ca, .slice ah nh ch], .int .i64 r, .agg #[.int .i64 p.1, .int .i64 p.2]] w fun e W' => e = .returned (.bool (fitV o hs r p)) ∧ Below w.heap.size w W' := by
  obtain ⟨W, hW, BW, TP, T⟩ := boxes2 w (.cells #[.slice a la ca, .slice ah nh ch] 32) (.cells #[.int .i64 p.1, .int .i64 p.2] 43)
  have hh := h.below BW
  have zP := blk_lt TP
  have zT := blk_lt T
  have hOk := fun d os => sPlateOk_any a ah la ca nh ch o hs _ (hh.below (below_regrown W d os))
  have hIn := fun V => in_any r 1 9 V
  rw [inR_r] at hIn
  have hPt := fun V => sPt_raw p V
  obtain ⟨t0, t1⟩ := reg_2 TP
  obtain ⟨u0, u1⟩ := reg_2 T
  have HO : Hid (∀ d os, Calls Tryz.prog 18 #[.agg #[.slice a la ca, .slice ah nh ch]] (grow (redrawn W d) os) fun e W' => e = .returned (.bool (plV o hs)) ∧ Below (grow (redrawn W d) os).heap.size (grow (redrawn W d) os) W') := hOk
  have HI : Hid (∀ V, Calls Tryz.prog 19 #[.int .i64 r, .int .i64 1, .int .i64 9] V fun e W' => e = .returned (.bool (rV r)) ∧ Below V.heap.size V W') := fun V => (hIn V).mono fun _ _ h => ⟨h.1, h.2 ▸ bw_refl _⟩
  have HQ : Hid (∀ V, Calls Tryz.prog 21 #[.agg #[.int .i64 p.1, .int .i64 p.2]] V fun e W' => e = .returned (.bool (ptB p.1 p.2)) ∧ Below V.heap.size V W') := hPt
  clear hOk hIn hPt
  cases hv : plV o hs
  · have e1 : Hid (fitV o hs r p = false) := by change _ = _; unfold fitV; rw [hv, Bool.and_false]; rfl
    rw [hv] at HO
    go_enter Tryz.func74, Tryz.ntmps74
    go_upto_region 1 with fail
    rw [← hW]
    clear hW
    refine wp_region_quiet_below (by kernel_rfl) (by kernel_rfl) ?_
    repeat (first | go_big_quiet_step (first | (go_at_call 18; with_reducible exact Calls.regrown_of (HO.out _ _))))
    refine wpQuiet_nil ?_
    intro _ hw'
    obtain ⟨⟨dq, osq⟩, hw''⟩ := hw'
    subst hw''
    have J := below_regrown W dq osq
    generalize grow (redrawn W dq) osq = v at J ⊢
    go_wp2_with fail
    go_ret
    exact ⟨by rw [e1.out]; first | rfl | simp, bw_trans BW J⟩
  rw [hv] at HO
  cases hr : rV r
  · have e1 : Hid (fitV o hs r p = false) := by change _ = _; unfold fitV; rw [hr]; rfl
    rw [hr] at HI
    go_enter Tryz.func74, Tryz.ntmps74
    go_upto_region 1 with fail
    rw [← hW]
    clear hW
    refine wp_region_quiet_below (by kernel_rfl) (by kernel_rfl) ?_
    repeat (first | go_big_quiet_step (first | (go_at_call 18; with_reducible exact Calls.regrown_of (HO.out _ _)) | (go_at_call 19; with_reducible exact Calls.regrown_of (HI.out _))))
    refine wpQuiet_nil ?_
    intro _ hw'
    obtain ⟨⟨dq, osq⟩, hw''⟩ := hw'
    subst hw''
    have J := below_regrown W dq osq
    generalize grow (redrawn W dq) osq = v at J ⊢
    go_wp2_with fail
    go_ret
    exact ⟨by rw [e1.out]; first | rfl | simp, bw_trans BW J⟩
  rw [hr] at HI
  cases hp : ptB p.1 p.2
  · have e1 : Hid (fitV o hs r p = false) := by change _ = _; unfold fitV; rw [hr, hv, hp]; rfl
    rw [hp] at HQ
    go_enter Tryz.func74, Tryz.ntmps74
    go_upto_region 1 with fail
    rw [← hW]
    clear hW
    refine wp_region_quiet_below (by kernel_rfl) (by kernel_rfl) ?_
    repeat (first | go_big_quiet_step (first | (go_at_call 18; with_reducible exact Calls.regrown_of (HO.out _ _)) | (go_at_call 19; with_reducible exact Calls.regrown_of (HI.out _)) | (go_at_call 21; with_reducible exact Calls.regrown_of (HQ.out _))))
    refine wpQuiet_nil ?_
    intro _ hw'
    obtain ⟨⟨dq, osq⟩, hw''⟩ := hw'
    subst hw''
    have J := below_regrown W dq osq
    generalize grow (redrawn W dq) osq = v at J ⊢
    go_wp2_with fail
    go_ret
    exact ⟨by rw [e1.out]; first | rfl | simp, bw_trans BW J⟩
  rw [hp] at HQ
  have e1 : Hid (fitV o hs r p = (((plE o hs).all fun s => !nearI s r p) && decide (plI o hs p = 1))) := by change _ = _; rw [fitV_ok hr hv hp]; exact fitI_all hr hv hp
  have n3 := plE_ne hv
  have n24 := plE_len o hs
  have hok : ∀ s ∈ plE o hs, sgP s.1 s.2 = true := fun s hs => plE_ok hv hs
  obtain ⟨N, hN⟩ : ∃ N, (plE o hs).length = N := ⟨_, rfl⟩
  have hOk2 : ∀ V, Below W.heap.size W V → Calls Tryz.prog 18 #[.agg #[.slice a la ca, .slice ah nh ch]] V fun e W' => e = .returned (.bool true) ∧ Below V.heap.size V W' := fun V hV => by have := sPlateOk_any a ah la ca nh ch o hs V (hh.below hV); rwa [hv] at this
  have hE : ∀ V, Below W.heap.size W V → Calls Tryz.prog 20 #[.agg #[.slice a la ca, .slice ah nh ch]] V _ := fun V hV => l11Edges_ok a ah la ca nh ch o hs hv V (hh.below hV)
  have hX : ∀ g c V, Below W.heap.size W V → SRow V g (plE o hs) → g < V.heap.size → Calls Tryz.prog 22 #[.agg #[.slice a la ca, .slice ah nh ch], .slice (some ⟨g, 0, none⟩) N c, .int .i64 r, .agg #[.int .i64 p.1, .int .i64 p.2]] V fun e W' => e = .returned (.bool (fitV o hs r p)) ∧ Below V.heap.size V W' := fun g c V hV hR hg => by
    have := sFits_ok a ah la ca nh ch o hs g N c (plE o hs) r p V (hh.below hV) hv hr hp hR hg hN (by omega) hok
    rw [e1.out]; exact this
  have hS0 : (fun w' : World => (w'.cell? ⟨w.heap.size, 0, none⟩ = some (.slice a la ca) ∧ w'.cell? ⟨w.heap.size, 1, none⟩ = some (.slice ah nh ch)) ∧ (w'.cell? ⟨w.heap.size + 1, 0, none⟩ = some (.int .i64 p.1) ∧ w'.cell? ⟨w.heap.size + 1, 1, none⟩ = some (.int .i64 p.2))) W.drew := ⟨blk_2 TP, blk_2 T⟩
  have H := bw_drew (bw_refl W)
  clear HO t0 t1 u0 u1
  go_enter Tryz.func74, Tryz.ntmps74
  go_upto_region 1 with fail
  rw [← hW]
  clear hW
  go_region_held3 (fun w' : World => (w'.cell? ⟨w.heap.size, 0, none⟩ = some (.slice a la ca) ∧ w'.cell? ⟨w.heap.size, 1, none⟩ = some (.slice ah nh ch)) ∧ (w'.cell? ⟨w.heap.size + 1, 0, none⟩ = some (.int .i64 p.1) ∧ w'.cell? ⟨w.heap.size + 1, 1, none⟩ = some (.int .i64 p.2)))
    (first | exact ⟨⟨cellB J hS0.1.1, cellB J hS0.1.2⟩, cellB J hS0.2.1, cellB J hS0.2.2⟩ | exact hS0)
    (first
      | (go_at_call 18; refine (hOk2 _ H).mono ?_; rintro e w2 ⟨rfl, J⟩; replace H := bw_trans H J; replace hS0 : (fun w' : World => (w'.cell? ⟨w.heap.size, 0, none⟩ = some (.slice a la ca) ∧ w'.cell? ⟨w.heap.size, 1, none⟩ = some (.slice ah nh ch)) ∧ (w'.cell? ⟨w.heap.size + 1, 0, none⟩ = some (.int .i64 p.1) ∧ w'.cell? ⟨w.heap.size + 1, 1, none⟩ = some (.int .i64 p.2))) w2 := ⟨⟨cellB J hS0.1.1, cellB J hS0.1.2⟩, cellB J hS0.2.1, cellB J hS0.2.2⟩)
      | (go_at_call 19; refine (HI.out _).mono ?_; rintro e w2 ⟨rfl, J⟩; replace H := bw_trans H J; replace hS0 : (fun w' : World => (w'.cell? ⟨w.heap.size, 0, none⟩ = some (.slice a la ca) ∧ w'.cell? ⟨w.heap.size, 1, none⟩ = some (.slice ah nh ch)) ∧ (w'.cell? ⟨w.heap.size + 1, 0, none⟩ = some (.int .i64 p.1) ∧ w'.cell? ⟨w.heap.size + 1, 1, none⟩ = some (.int .i64 p.2))) w2 := ⟨⟨cellB J hS0.1.1, cellB J hS0.1.2⟩, cellB J hS0.2.1, cellB J hS0.2.2⟩)
      | (go_at_call 21; refine (HQ.out _).mono ?_; rintro e w2 ⟨rfl, J⟩; replace H := bw_trans H J; replace hS0 : (fun w' : World => (w'.cell? ⟨w.heap.size, 0, none⟩ = some (.slice a la ca) ∧ w'.cell? ⟨w.heap.size, 1, none⟩ = some (.slice ah nh ch)) ∧ (w'.cell? ⟨w.heap.size + 1, 0, none⟩ = some (.int .i64 p.1) ∧ w'.cell? ⟨w.heap.size + 1, 1, none⟩ = some (.int .i64 p.2))) w2 := ⟨⟨cellB J hS0.1.1, cellB J hS0.1.2⟩, cellB J hS0.2.1, cellB J hS0.2.2⟩)
      | (go_at_call 20; refine (hE _ H).mono ?_; rintro e w2 ⟨v, rfl, ho, J⟩; obtain ⟨g, c, rfl, hg, hR⟩ := row_of_owns' ho (by omega); rw [hN]; replace H := bw_trans H J; replace hS0 : (fun w' : World => (w'.cell? ⟨w.heap.size, 0, none⟩ = some (.slice a la ca) ∧ w'.cell? ⟨w.heap.size, 1, none⟩ = some (.slice ah nh ch)) ∧ (w'.cell? ⟨w.heap.size + 1, 0, none⟩ = some (.int .i64 p.1) ∧ w'.cell? ⟨w.heap.size + 1, 1, none⟩ = some (.int .i64 p.2))) w2 := ⟨⟨cellB J hS0.1.1, cellB J hS0.1.2⟩, cellB J hS0.2.1, cellB J hS0.2.2⟩)
      | (go_at_call 22; refine (hX g c _ H hR hg).mono ?_; rintro e w2 ⟨rfl, J⟩; replace H := bw_trans H J; replace hS0 : (fun w' : World => (w'.cell? ⟨w.heap.size, 0, none⟩ = some (.slice a la ca) ∧ w'.cell? ⟨w.heap.size, 1, none⟩ = some (.slice ah nh ch)) ∧ (w'.cell? ⟨w.heap.size + 1, 0, none⟩ = some (.int .i64 p.1) ∧ w'.cell? ⟨w.heap.size + 1, 1, none⟩ = some (.int .i64 p.2))) w2 := ⟨⟨cellB J hS0.1.1, cellB J hS0.1.2⟩, cellB J hS0.2.1, cellB J hS0.2.2⟩))
  all_goals go_wp2_with fail
  all_goals go_ret
  all_goals exact ⟨by first | rfl | simp, bw_trans BW H⟩
end Go.Proofs.YtkncejcpeejkkaaGreatDoor
namespace Go.Proofs.YtkncejcpeejkkaaGreatDoor
open Go.RowKit Go.Sort

set_option maxRecDepth 100000 in
set_option maxHeartbeats 8000000 in
theorem sMayI_ok (a ah : Option Addr) (la ca nh ch : Nat) (o : List P2) (hs : List (List P2)) (g len cap : Nat) (r : Int) (p q : P2) (w : World) (h : Plt w a la ah nh o hs) (hv : plV o hs = true) (hr : rV r = true) (hp : ptB p.1 p.2 = true) (hq : ptB q.1 q.2 = true) (hd : dt p.1 p.2 q.1 q.2 q.1 q.2 = 1) (hS : SRow w g (plE o hs)) (zg : g < w.heap.size) (hl : (plE o hs).length = len) :
    Calls Tryz.prog 24 #[.agg #[.slice a la ca, .slice ah nh ch], .slice (some ⟨g, 0, none⟩) len cap, .int .i64 r, .agg #[.int .i64 p.1, .int .i64 p.2], .agg #[.int .i64 q.1, .int .i64 q.2]] w fun e W' => e = .returned (.bool (mayI o hs r p q)) ∧ Below w.heap.size w W' := by
  obtain ⟨W, hW, BW, TP, T, U⟩ := boxes3 w (.cells #[.slice a la ca, .slice ah nh ch] 32) (.cells #[.int .i64 p.1, .int .i64 p.2] 43) (.cells #[.int .i64 q.1, .int .i64 q.2] 43)
  have hr' := (rV_iff r).1 hr
  have hw := beside_sg hp hq hd
  have h24 := plE_len o hs
  have hok : ∀ s ∈ plE o hs, sgP s.1 s.2 = true := fun s hs' => plE_ok hv hs'
  have HFI : Hid (∀ p' : P2, ptB p'.1 p'.2 = true → ∀ V, Below w.heap.size w V → Calls Tryz.prog 22 #[.agg #[.slice a la ca, .slice ah nh ch], .slice (some ⟨g, 0, none⟩) len cap, .int .i64 r, .agg #[.int .i64 p'.1, .int .i64 p'.2]] V fun e W' => e = .returned (.bool (fitI o hs r p')) ∧ Below V.heap.size V W') := fun p' hp' V hV => by
    have := sFits_ok a ah la ca nh ch o hs g len cap (plE o hs) r p' V (h.below hV) hv hr hp' (hS.below hV zg) (by have := hV.size; omega) hl (by omega) hok
    rw [fitI_all hr hv hp']; exact this
  have HM : Hid (mayI o hs r p q = (fitI o hs r p && fitI o hs r q && (plE o hs).all fun s => !hitI p q r s)) := mayI_hit hr hv hp hq hd
  have HA : Hid (((plE o hs).all fun s => !hitI p q r s) = true ↔ ∀ k, k < len → hitI p q r (sAt (plE o hs) k) = false) := by
    change _ ↔ _
    rw [List.all_eq_true]
    constructor
    · intro h k hk; simpa using h _ (sAt_mem (show k < (plE o hs).length by omega))
    · intro h s hs'
      obtain ⟨k, hk, rfl⟩ := List.getElem_of_mem hs'
      have this : hitI p q r (sAt (plE o hs) k) = false := h k (by omega)
      rw [show sAt (plE o hs) k = (plE o hs)[k] by unfold sAt; rw [List.getElem?_eq_getElem hk, Option.getD_some]] at this
      rw [this]; rfl
  have HC : Hid (∀ k, k < len → ∀ V, Calls Tryz.prog 42 #[.agg #[.int .i64 p.1, .int .i64 p.2, .int .i64 q.1, .int .i64 q.2], .agg #[.int .i64 (sAt (plE o hs) k).1.1, .int .i64 (sAt (plE o hs) k).1.2, .int .i64 (sAt (plE o hs) k).2.1, .int .i64 (sAt (plE o hs) k).2.2]] V (fun e w' => e = .returned (.bool (meetP p q (sAt (plE o hs) k).1 (sAt (plE o hs) k).2)) ∧ Below V.heap.size V w')
      ∧ Calls Tryz.prog 39 #[.agg #[.int .i64 p.1, .int .i64 p.2, .int .i64 q.1, .int .i64 q.2], .int .i64 r, .agg #[.int .i64 (sAt (plE o hs) k).1.1, .int .i64 (sAt (plE o hs) k).1.2]] V (fun e w' => e = .returned (.bool (nearI (p, q) r (sAt (plE o hs) k).1)) ∧ Below V.heap.size V w')
      ∧ Calls Tryz.prog 39 #[.agg #[.int .i64 p.1, .int .i64 p.2, .int .i64 q.1, .int .i64 q.2], .int .i64 r, .agg #[.int .i64 (sAt (plE o hs) k).2.1, .int .i64 (sAt (plE o hs) k).2.2]] V (fun e w' => e = .returned (.bool (nearI (p, q) r (sAt (plE o hs) k).2)) ∧ Below V.heap.size V w')) := fun k hk V => by
    have hk' := hok _ (sAt_mem (show k < (plE o hs).length by omega))
    exact ⟨sMeet_raw p q _ _ hw hk' V, sNear_any _ _ _ _ _ _ r V hr' hw (sgP_pt hk').1, sNear_any _ _ _ _ _ _ r V hr' hw (sgP_pt hk').2⟩
  have HS : Hid (∀ k, k < len → w.cell? ⟨g, k * 4, none⟩ = some (.int .i64 (sAt (plE o hs) k).1.1) ∧ w.cell? ⟨g, k * 4 + 1, none⟩ = some (.int .i64 (sAt (plE o hs) k).1.2) ∧ w.cell? ⟨g, k * 4 + 2, none⟩ = some (.int .i64 (sAt (plE o hs) k).2.1) ∧ w.cell? ⟨g, k * 4 + 3, none⟩ = some (.int .i64 (sAt (plE o hs) k).2.2)) := fun k hk => hS k (by omega)
  have HFP := fun V hV => HFI.out p hp V hV
  have HFQ := fun V hV => HFI.out q hq V hV
  have hl2 : len ≤ 24 := by omega
  clear HFI hok hl hS h hv hr hp hq hd hw h24
  go_enter Tryz.func24, Tryz.ntmps24
  go_upto_region 1 with fail
  rw [← hW]
  clear hW
  cases hfp : fitI o hs r p
  · have e1 : Hid (mayI o hs r p q = false) := by change _ = _; rw [HM.out, hfp]; rfl
    have hc := HFP W BW
    rw [hfp] at hc
    obtain ⟨t0, t1⟩ := blk_2 TP
    obtain ⟨u0, u1⟩ := blk_2 T
    go_wp2_with fail
    refine hc.mono ?_
    rintro e v1 ⟨rfl, J⟩
    go_wp2_with fail
    go_ret
    exact ⟨by rw [e1.out]; rfl, bw_trans BW J⟩
  have hc := HFP W BW
  rw [hfp] at hc
  obtain ⟨t0, t1⟩ := blk_2 TP
  obtain ⟨u0, u1⟩ := blk_2 T
  go_wp2_with fail
  refine hc.mono ?_
  rintro e v1 ⟨rfl, J⟩
  have K := bw_trans BW J
  replace TP := keep J TP
  replace T := keep J T
  replace U := keep J U
  clear t0 t1 u0 u1 J hc BW
  have hc := HFQ v1 K
  cases hfq : fitI o hs r q
  · have e1 : Hid (mayI o hs r p q = false) := by change _ = _; rw [HM.out, hfp, hfq]; rfl
    rw [hfq] at hc
    obtain ⟨t0, t1⟩ := blk_2 TP
    obtain ⟨u0, u1⟩ := blk_2 U
    go_wp2_with fail
    refine hc.mono ?_
    rintro e v2 ⟨rfl, J⟩
    go_wp2_with fail
    go_ret
    exact ⟨by rw [e1.out]; rfl, bw_trans K J⟩
  rw [hfq] at hc
  obtain ⟨t0, t1⟩ := blk_2 TP
  obtain ⟨u0, u1⟩ := blk_2 U
  go_wp2_with fail
  refine hc.mono ?_
  rintro e v2 ⟨rfl, J⟩
  replace K := bw_trans K J
  replace T := keep J T
  replace U := keep J U
  clear t0 t1 u0 u1 J hc
  obtain ⟨t0, t1⟩ := blk_2 T
  obtain ⟨u0, u1⟩ := blk_2 U
  have e0 : Hid (mayI o hs r p q = (plE o hs).all fun s => !hitI p q r s) := by change _ = _; rw [HM.out, hfp, hfq]; rfl
  obtain ⟨V, hV, BV, Y⟩ : ∃ V, V = v2.alloc (.cells #[.int .i64 p.1, .int .i64 p.2, .int .i64 q.1, .int .i64 q.2] 75) ∧ Below v2.heap.size v2 V ∧ V.heap[v2.heap.size]? = some (.cells #[.int .i64 p.1, .int .i64 p.2, .int .i64 q.1, .int .i64 q.2] 75 (0, 0)) := ⟨_, rfl, (by repeat (first | exact bw_refl _ | assumption | apply bw_drewN | apply bw_drew | apply bw_alloc | refine bw_set ?_ (by simp) _)), heap_new _ _⟩
  replace K := bw_trans K BV
  clear HM HFP HFQ hfp hfq BV T U TP
  generalize ((plE o hs).all fun s => !hitI p q r s) = al at *
  generalize plE o hs = ss at *
  go_upto_region 4 with fail
  rw [← hV]
  clear hV t0 t1 u0 u1
  go_wp2_with fail
  go_loopw [12] (fun i wr => ∃ k : Nat, k ≤ len ∧ i = .int .i64 k ∧ (∀ j, j < k → hitI p q r (sAt ss j) = false) ∧ Below V.heap.size V wr) (fun i _ => len - (intOf i).toNat)
  case atStart => exact ⟨0, Nat.zero_le _, rfl, fun j hj => absurd hj (Nat.not_lt_zero _), bw_refl _⟩
  case round =>
    obtain ⟨k, hk, rfl, hb, hnx⟩ := hrel
    have HB : Hid (∀ j, j < k → hitI p q r (sAt ss j) = false) := hb
    clear hb
    have KW := bw_trans K hnx
    by_cases hlt : k < len
    case pos =>
      obtain ⟨s0, s1, s2, s3⟩ := HS.out k hlt
      obtain ⟨d0, d1, d2, d3⟩ := regrow4 ⟨(KW.cell (p := ⟨g, k * 4, none⟩) zg).trans s0, (KW.cell (p := ⟨g, k * 4 + 1, none⟩) zg).trans s1, (KW.cell (p := ⟨g, k * 4 + 2, none⟩) zg).trans s2, (KW.cell (p := ⟨g, k * 4 + 3, none⟩) zg).trans s3⟩
      obtain ⟨y0, y1, y2, y3⟩ := reg_4 (keep hnx Y)
      have i0 : (0 : Int) ≤ (k : Int) := Int.natCast_nonneg _
      have i1 : (k : Int) < (len : Int) := by omega
      have i2 : (k : Int) ≤ 24 := by omega
      have hX := HC.out k hlt
      have HX1 : Hid (∀ V, _) := fun V => (hX V).1
      have HX2 : Hid (∀ V, _) := fun V => (hX V).2.1
      have HX3 : Hid (∀ V, _) := fun V => (hX V).2.2
      have HH : Hid (hitI p q r (sAt ss k) = (meetP p q (sAt ss k).1 (sAt ss k).2 || nearI (p, q) r (sAt ss k).1 || nearI (p, q) r (sAt ss k).2)) := rfl
      clear hX s0 s1 s2 s3
      generalize meetP p q (sAt ss k).1 (sAt ss k).2 = b1 at *
      generalize nearI (p, q) r (sAt ss k).1 = b2 at *
      generalize nearI (p, q) r (sAt ss k).2 = b3 at *
      cases b1
      · cases b2
        · cases b3
          · go_wp2_with fail
            refine wp_region_quiet_below (by kernel_rfl) (by kernel_rfl) ?_
            repeat (first | go_big_quiet_step (first | (go_at_call 42; with_reducible exact Calls.regrown_of (HX1.out _)) | (go_at_call 39; with_reducible exact Calls.regrown_of (HX2.out _)) | (go_at_call 39; with_reducible exact Calls.regrown_of (HX3.out _))))
            refine wpQuiet_nil ?_
            intro _ hw'
            obtain ⟨⟨dq, osq⟩, hw''⟩ := hw'
            subst hw''
            have J := below_regrown wr dq osq
            generalize grow (redrawn wr dq) osq = v5 at J ⊢
            go_wp2_with fail
            go_roundw
            case rel =>
              refine ⟨k + 1, by omega, by simp, fun j hj => ?_, bw_trans hnx J⟩
              rcases Nat.lt_or_ge j k with hjk | hjk
              · exact HB.out j hjk
              · obtain rfl : j = k := by omega
                exact HH.out
            case measure => simp [intOf]; omega
          · have e1 : Hid (mayI o hs r p q = false) := by
              change _ = _
              rw [e0.out, Bool.eq_false_iff]
              intro hc
              have h9 := HA.out.1 hc k hlt
              rw [HH.out] at h9; simp at h9
            go_wp2_with fail
            refine wp_region_quiet_below (by kernel_rfl) (by kernel_rfl) ?_
            repeat (first | go_big_quiet_step (first | (go_at_call 42; with_reducible exact Calls.regrown_of (HX1.out _)) | (go_at_call 39; with_reducible exact Calls.regrown_of (HX2.out _)) | (go_at_call 39; with_reducible exact Calls.regrown_of (HX3.out _))))
            refine wpQuiet_nil ?_
            intro _ hw'
            obtain ⟨⟨dq, osq⟩, hw''⟩ := hw'
            subst hw''
            have J := below_regrown wr dq osq
            generalize grow (redrawn wr dq) osq = v5 at J ⊢
            go_wp2_with fail
            go_ret
            exact ⟨by rw [e1.out]; rfl, bw_trans KW J⟩
        · have e1 : Hid (mayI o hs r p q = false) := by
            change _ = _
            rw [e0.out, Bool.eq_false_iff]
            intro hc
            have h9 := HA.out.1 hc k hlt
            rw [HH.out] at h9; simp at h9
          go_wp2_with fail
          refine wp_region_quiet_below (by kernel_rfl) (by kernel_rfl) ?_
          repeat (first | go_big_quiet_step (first | (go_at_call 42; with_reducible exact Calls.regrown_of (HX1.out _)) | (go_at_call 39; with_reducible exact Calls.regrown_of (HX2.out _))))
          refine wpQuiet_nil ?_
          intro _ hw'
          obtain ⟨⟨dq, osq⟩, hw''⟩ := hw'
          subst hw''
          have J := below_regrown wr dq osq
          generalize grow (redrawn wr dq) osq = v5 at J ⊢
          go_wp2_with fail
          go_ret
          exact ⟨by rw [e1.out]; rfl, bw_trans KW J⟩
      · have e1 : Hid (mayI o hs r p q = false) := by
          change _ = _
          rw [e0.out, Bool.eq_false_iff]
          intro hc
          have h9 := HA.out.1 hc k hlt
          rw [HH.out] at h9; simp at h9
        go_wp2_with fail
        refine wp_region_quiet_below (by kernel_rfl) (by kernel_rfl) ?_
        repeat (first | go_big_quiet_step (first | (go_at_call 42; with_reducible exact Calls.regrown_of (HX1.out _))))
        refine wpQuiet_nil ?_
        intro _ hw'
        obtain ⟨⟨dq, osq⟩, hw''⟩ := hw'
        subst hw''
        have J := below_regrown wr dq osq
        generalize grow (redrawn wr dq) osq = v5 at J ⊢
        go_wp2_with fail
        go_ret
        exact ⟨by rw [e1.out]; rfl, bw_trans KW J⟩
    case neg =>
      obtain rfl : len = k := by omega
      have e1 : Hid (mayI o hs r p q = true) := by change _ = _; rw [e0.out]; exact HA.out.2 HB.out
      clear HA HC HB
      go_wp2_with fail
      go_ret
      exact ⟨by rw [e1.out]; rfl, KW⟩
end Go.Proofs.YtkncejcpeejkkaaGreatDoor
namespace Go.Proofs.YtkncejcpeejkkaaGreatDoor
open Go.RowKit Go.Sort

set_option maxHeartbeats 1000000 in
theorem sBeside_ok (p q : P2) (w : World) (hp : ptB p.1 p.2 = true) (hq : ptB q.1 q.2 = true) :
    Calls Tryz.prog 23 #[.agg #[.int .i64 p.1, .int .i64 p.2], .agg #[.int .i64 q.1, .int .i64 q.2]] w fun e W' => e = .returned (.bool (decide (dt p.1 p.2 q.1 q.2 q.1 q.2 = 1))) ∧ Below w.heap.size w W' := by
  have hc := fun V => sDot_any _ _ _ _ _ _ V hp hq hq
  generalize dt p.1 p.2 q.1 q.2 q.1 q.2 = z at *
  go_enter Tryz.func23, Tryz.ntmps23
  go_wp2_with fail
  refine (hc _).mono ?_
  rintro e v ⟨rfl, J⟩
  go_wp2_with fail
  go_ret
  exact ⟨by congr 1, bw_trans (by repeat (first | exact bw_refl _ | assumption | apply bw_drewN | apply bw_drew | apply bw_alloc | refine bw_set ?_ (by simp) _)) J⟩
set_option maxRecDepth 100000 in
set_option maxHeartbeats 4000000 in
theorem sToolMay_any (a ah : Option Addr) (la ca nh ch : Nat) (o : List P2) (hs : List (List P2)) (r : Int) (p q : P2) (w : World) (h : Plt w a la ah nh o hs) :
    Calls Tryz.prog 55 #[.agg #[.slice a la ca, .slice ah nh ch], .int .i64 r, .agg #[.int .i64 p.1, .int .i64 p.2], .agg #[.int .i64 q.1, .int .i64 q.2]] w fun e W' => e = .returned (.bool (mayV o hs r p q)) ∧ Below w.heap.size w W' := by
  obtain ⟨W, hW, BW, TP, T, U⟩ := boxes3 w (.cells #[.slice a la ca, .slice ah nh ch] 32) (.cells #[.int .i64 p.1, .int .i64 p.2] 43) (.cells #[.int .i64 q.1, .int .i64 q.2] 43)
  have hh := h.below BW
  have zP := blk_lt TP
  have zT := blk_lt T
  have zU := blk_lt U
  have hOk := fun d os => sPlateOk_any a ah la ca nh ch o hs _ (hh.below (below_regrown W d os))
  have hIn := fun V => in_any r 1 9 V
  rw [inR_r] at hIn
  have hPt := fun V => sPt_raw p V
  have hPt2 := fun V => sPt_raw q V
  obtain ⟨t0, t1⟩ := reg_2 TP
  obtain ⟨u0, u1⟩ := reg_2 T
  obtain ⟨x0, x1⟩ := reg_2 U
  have HO : Hid (∀ d os, Calls Tryz.prog 18 #[.agg #[.slice a la ca, .slice ah nh ch]] (grow (redrawn W d) os) fun e W' => e = .returned (.bool (plV o hs)) ∧ Below (grow (redrawn W d) os).heap.size (grow (redrawn W d) os) W') := hOk
  have HI : Hid (∀ V, Calls Tryz.prog 19 #[.int .i64 r, .int .i64 1, .int .i64 9] V fun e W' => e = .returned (.bool (rV r)) ∧ Below V.heap.size V W') := fun V => (hIn V).mono fun _ _ h => ⟨h.1, h.2 ▸ bw_refl _⟩
  have HQ : Hid (∀ V, Calls Tryz.prog 21 #[.agg #[.int .i64 p.1, .int .i64 p.2]] V fun e W' => e = .returned (.bool (ptB p.1 p.2)) ∧ Below V.heap.size V W') := hPt
  have HQ2 : Hid (∀ V, Calls Tryz.prog 21 #[.agg #[.int .i64 q.1, .int .i64 q.2]] V fun e W' => e = .returned (.bool (ptB q.1 q.2)) ∧ Below V.heap.size V W') := hPt2
  clear hOk hIn hPt hPt2
  cases hv : plV o hs
  · have e1 : Hid (mayV o hs r p q = false) := by change _ = _; unfold mayV; rw [hv, Bool.and_false]; try rfl
    try rw [hv] at HO
    go_enter Tryz.func55, Tryz.ntmps55
    go_upto_region 1 with fail
    rw [← hW]
    clear hW
    refine wp_region_quiet_below (by kernel_rfl) (by kernel_rfl) ?_
    repeat (first | go_big_quiet_step (first | (go_at_call 18; with_reducible exact Calls.regrown_of (HO.out _ _))))
    refine wpQuiet_nil ?_
    intro _ hw'
    obtain ⟨⟨dq, osq⟩, hw''⟩ := hw'
    subst hw''
    have J := below_regrown W dq osq
    generalize grow (redrawn W dq) osq = v at J ⊢
    go_wp2_with fail
    go_ret
    exact ⟨by rw [e1.out]; first | rfl | simp, bw_trans BW J⟩
  rw [hv] at HO
  cases hr : rV r
  · have e1 : Hid (mayV o hs r p q = false) := by change _ = _; unfold mayV; rw [hr]; try rfl
    try rw [hr] at HI
    go_enter Tryz.func55, Tryz.ntmps55
    go_upto_region 1 with fail
    rw [← hW]
    clear hW
    refine wp_region_quiet_below (by kernel_rfl) (by kernel_rfl) ?_
    repeat (first | go_big_quiet_step (first | (go_at_call 18; with_reducible exact Calls.regrown_of (HO.out _ _)) | (go_at_call 19; with_reducible exact Calls.regrown_of (HI.out _))))
    refine wpQuiet_nil ?_
    intro _ hw'
    obtain ⟨⟨dq, osq⟩, hw''⟩ := hw'
    subst hw''
    have J := below_regrown W dq osq
    generalize grow (redrawn W dq) osq = v at J ⊢
    go_wp2_with fail
    go_ret
    exact ⟨by rw [e1.out]; first | rfl | simp, bw_trans BW J⟩
  rw [hr] at HI
  cases hp : ptB p.1 p.2
  · have e1 : Hid (mayV o hs r p q = false) := by change _ = _; unfold mayV; rw [hr, hv, hp]; try rfl
    try rw [hp] at HQ
    go_enter Tryz.func55, Tryz.ntmps55
    go_upto_region 1 with fail
    rw [← hW]
    clear hW
    refine wp_region_quiet_below (by kernel_rfl) (by kernel_rfl) ?_
    repeat (first | go_big_quiet_step (first | (go_at_call 18; with_reducible exact Calls.regrown_of (HO.out _ _)) | (go_at_call 19; with_reducible exact Calls.regrown_of (HI.out _)) | (go_at_call 21; with_reducible exact Calls.regrown_of (HQ.out _))))
    refine wpQuiet_nil ?_
    intro _ hw'
    obtain ⟨⟨dq, osq⟩, hw''⟩ := hw'
    subst hw''
    have J := below_regrown W dq osq
    generalize grow (redrawn W dq) osq = v at J ⊢
    go_wp2_with fail
    go_ret
    exact ⟨by rw [e1.out]; first | rfl | simp, bw_trans BW J⟩
  rw [hp] at HQ
  cases hq : ptB q.1 q.2
  · have e1 : Hid (mayV o hs r p q = false) := by change _ = _; unfold mayV; rw [hr, hv, hp, hq]; try rfl
    try rw [hq] at HQ2
    go_enter Tryz.func55, Tryz.ntmps55
    go_upto_region 1 with fail
    rw [← hW]
    clear hW
    refine wp_region_quiet_below (by kernel_rfl) (by kernel_rfl) ?_
    repeat (first | go_big_quiet_step (first | (go_at_call 18; with_reducible exact Calls.regrown_of (HO.out _ _)) | (go_at_call 19; with_reducible exact Calls.regrown_of (HI.out _)) | (go_at_call 21; with_reducible exact Calls.regrown_of (HQ.out _)) | (go_at_call 21; with_reducible exact Calls.regrown_of (HQ2.out _))))
    refine wpQuiet_nil ?_
    intro _ hw'
    obtain ⟨⟨dq, osq⟩, hw''⟩ := hw'
    subst hw''
    have J := below_regrown W dq osq
    generalize grow (redrawn W dq) osq = v at J ⊢
    go_wp2_with fail
    go_ret
    exact ⟨by rw [e1.out]; first | rfl | simp, bw_trans BW J⟩
  rw [hq] at HQ2
  have HB : Hid (∀ V, Calls Tryz.prog 23 #[.agg #[.int .i64 p.1, .int .i64 p.2], .agg #[.int .i64 q.1, .int .i64 q.2]] V fun e W' => e = .returned (.bool (decide (dt p.1 p.2 q.1 q.2 q.1 q.2 = 1))) ∧ Below V.heap.size V W') := fun V => sBeside_ok p q V hp hq
  cases hd : decide (dt p.1 p.2 q.1 q.2 q.1 q.2 = 1)
  · have e1 : Hid (mayV o hs r p q = false) := by change _ = _; unfold mayV; rw [hr, hv, hp, hq, hd]; try rfl
    try rw [hd] at HB
    go_enter Tryz.func55, Tryz.ntmps55
    go_upto_region 1 with fail
    rw [← hW]
    clear hW
    refine wp_region_quiet_below (by kernel_rfl) (by kernel_rfl) ?_
    repeat (first | go_big_quiet_step (first | (go_at_call 18; with_reducible exact Calls.regrown_of (HO.out _ _)) | (go_at_call 19; with_reducible exact Calls.regrown_of (HI.out _)) | (go_at_call 21; with_reducible exact Calls.regrown_of (HQ.out _)) | (go_at_call 21; with_reducible exact Calls.regrown_of (HQ2.out _)) | (go_at_call 23; with_reducible exact Calls.regrown_of (HB.out _))))
    refine wpQuiet_nil ?_
    intro _ hw'
    obtain ⟨⟨dq, osq⟩, hw''⟩ := hw'
    subst hw''
    have J := below_regrown W dq osq
    generalize grow (redrawn W dq) osq = v at J ⊢
    go_wp2_with fail
    go_ret
    exact ⟨by rw [e1.out]; first | rfl | simp, bw_trans BW J⟩
  rw [hd] at HB
  have e1 : Hid (mayV o hs r p q = mayI o hs r p q) := by change _ = _; unfold mayV; rw [hr, hv, hp, hq, hd]; rfl
  have hd' : dt p.1 p.2 q.1 q.2 q.1 q.2 = 1 := of_decide_eq_true hd
  have n3 := plE_ne hv
  have n24 := plE_len o hs
  obtain ⟨N, hN⟩ : ∃ N, (plE o hs).length = N := ⟨_, rfl⟩
  have hOk2 : ∀ V, Below W.heap.size W V → Calls Tryz.prog 18 #[.agg #[.slice a la ca, .slice ah nh ch]] V fun e W' => e = .returned (.bool true) ∧ Below V.heap.size V W' := fun V hV => by have := sPlateOk_any a ah la ca nh ch o hs V (hh.below hV); rwa [hv] at this
  have hE : ∀ V, Below W.heap.size W V → Calls Tryz.prog 20 #[.agg #[.slice a la ca, .slice ah nh ch]] V _ := fun V hV => l11Edges_ok a ah la ca nh ch o hs hv V (hh.below hV)
  have hX : ∀ g c V, Below W.heap.size W V → SRow V g (plE o hs) → g < V.heap.size → Calls Tryz.prog 24 #[.agg #[.slice a la ca, .slice ah nh ch], .slice (some ⟨g, 0, none⟩) N c, .int .i64 r, .agg #[.int .i64 p.1, .int .i64 p.2], .agg #[.int .i64 q.1, .int .i64 q.2]] V fun e W' => e = .returned (.bool (mayV o hs r p q)) ∧ Below V.heap.size V W' := fun g c V hV hR hg => by
    have := sMayI_ok a ah la ca nh ch o hs g N c r p q V (hh.below hV) hv hr hp hq hd' hR hg hN
    rw [e1.out]; exact this
  have hS0 : (fun w' : World => (w'.cell? ⟨w.heap.size, 0, none⟩ = some (.slice a la ca) ∧ w'.cell? ⟨w.heap.size, 1, none⟩ = some (.slice ah nh ch)) ∧ (w'.cell? ⟨w.heap.size + 1, 0, none⟩ = some (.int .i64 p.1) ∧ w'.cell? ⟨w.heap.size + 1, 1, none⟩ = some (.int .i64 p.2)) ∧ (w'.cell? ⟨w.heap.size + 2, 0, none⟩ = some (.int .i64 q.1) ∧ w'.cell? ⟨w.heap.size + 2, 1, none⟩ = some (.int .i64 q.2))) W.drew := ⟨blk_2 TP, blk_2 T, blk_2 U⟩
  have H := bw_drew (bw_refl W)
  clear HO t0 t1 u0 u1 x0 x1
  go_enter Tryz.func55, Tryz.ntmps55
  go_upto_region 1 with fail
  rw [← hW]
  clear hW
  go_region_held3 (fun w' : World => (w'.cell? ⟨w.heap.size, 0, none⟩ = some (.slice a la ca) ∧ w'.cell? ⟨w.heap.size, 1, none⟩ = some (.slice ah nh ch)) ∧ (w'.cell? ⟨w.heap.size + 1, 0, none⟩ = some (.int .i64 p.1) ∧ w'.cell? ⟨w.heap.size + 1, 1, none⟩ = some (.int .i64 p.2)) ∧ (w'.cell? ⟨w.heap.size + 2, 0, none⟩ = some (.int .i64 q.1) ∧ w'.cell? ⟨w.heap.size + 2, 1, none⟩ = some (.int .i64 q.2)))
    (first | exact ⟨⟨cellB J hS0.1.1, cellB J hS0.1.2⟩, ⟨cellB J hS0.2.1.1, cellB J hS0.2.1.2⟩, ⟨cellB J hS0.2.2.1, cellB J hS0.2.2.2⟩⟩ | exact hS0)
    (first
      | (go_at_call 18; refine (hOk2 _ H).mono ?_; rintro e w2 ⟨rfl, J⟩; replace H := bw_trans H J; replace hS0 : (fun w' : World => (w'.cell? ⟨w.heap.size, 0, none⟩ = some (.slice a la ca) ∧ w'.cell? ⟨w.heap.size, 1, none⟩ = some (.slice ah nh ch)) ∧ (w'.cell? ⟨w.heap.size + 1, 0, none⟩ = some (.int .i64 p.1) ∧ w'.cell? ⟨w.heap.size + 1, 1, none⟩ = some (.int .i64 p.2)) ∧ (w'.cell? ⟨w.heap.size + 2, 0, none⟩ = some (.int .i64 q.1) ∧ w'.cell? ⟨w.heap.size + 2, 1, none⟩ = some (.int .i64 q.2))) w2 := ⟨⟨cellB J hS0.1.1, cellB J hS0.1.2⟩, ⟨cellB J hS0.2.1.1, cellB J hS0.2.1.2⟩, ⟨cellB J hS0.2.2.1, cellB J hS0.2.2.2⟩⟩)
      | (go_at_call 19; refine (HI.out _).mono ?_; rintro e w2 ⟨rfl, J⟩; replace H := bw_trans H J; replace hS0 : (fun w' : World => (w'.cell? ⟨w.heap.size, 0, none⟩ = some (.slice a la ca) ∧ w'.cell? ⟨w.heap.size, 1, none⟩ = some (.slice ah nh ch)) ∧ (w'.cell? ⟨w.heap.size + 1, 0, none⟩ = some (.int .i64 p.1) ∧ w'.cell? ⟨w.heap.size + 1, 1, none⟩ = some (.int .i64 p.2)) ∧ (w'.cell? ⟨w.heap.size + 2, 0, none⟩ = some (.int .i64 q.1) ∧ w'.cell? ⟨w.heap.size + 2, 1, none⟩ = some (.int .i64 q.2))) w2 := ⟨⟨cellB J hS0.1.1, cellB J hS0.1.2⟩, ⟨cellB J hS0.2.1.1, cellB J hS0.2.1.2⟩, ⟨cellB J hS0.2.2.1, cellB J hS0.2.2.2⟩⟩)
      | (go_at_call 21; with_reducible refine (HQ.out _).mono ?_; rintro e w2 ⟨rfl, J⟩; replace H := bw_trans H J; replace hS0 : (fun w' : World => (w'.cell? ⟨w.heap.size, 0, none⟩ = some (.slice a la ca) ∧ w'.cell? ⟨w.heap.size, 1, none⟩ = some (.slice ah nh ch)) ∧ (w'.cell? ⟨w.heap.size + 1, 0, none⟩ = some (.int .i64 p.1) ∧ w'.cell? ⟨w.heap.size + 1, 1, none⟩ = some (.int .i64 p.2)) ∧ (w'.cell? ⟨w.heap.size + 2, 0, none⟩ = some (.int .i64 q.1) ∧ w'.cell? ⟨w.heap.size + 2, 1, none⟩ = some (.int .i64 q.2))) w2 := ⟨⟨cellB J hS0.1.1, cellB J hS0.1.2⟩, ⟨cellB J hS0.2.1.1, cellB J hS0.2.1.2⟩, ⟨cellB J hS0.2.2.1, cellB J hS0.2.2.2⟩⟩)
      | (go_at_call 21; refine (HQ2.out _).mono ?_; rintro e w2 ⟨rfl, J⟩; replace H := bw_trans H J; replace hS0 : (fun w' : World => (w'.cell? ⟨w.heap.size, 0, none⟩ = some (.slice a la ca) ∧ w'.cell? ⟨w.heap.size, 1, none⟩ = some (.slice ah nh ch)) ∧ (w'.cell? ⟨w.heap.size + 1, 0, none⟩ = some (.int .i64 p.1) ∧ w'.cell? ⟨w.heap.size + 1, 1, none⟩ = some (.int .i64 p.2)) ∧ (w'.cell? ⟨w.heap.size + 2, 0, none⟩ = some (.int .i64 q.1) ∧ w'.cell? ⟨w.heap.size + 2, 1, none⟩ = some (.int .i64 q.2))) w2 := ⟨⟨cellB J hS0.1.1, cellB J hS0.1.2⟩, ⟨cellB J hS0.2.1.1, cellB J hS0.2.1.2⟩, ⟨cellB J hS0.2.2.1, cellB J hS0.2.2.2⟩⟩)
      | (go_at_call 23; refine (HB.out _).mono ?_; rintro e w2 ⟨rfl, J⟩; replace H := bw_trans H J; replace hS0 : (fun w' : World => (w'.cell? ⟨w.heap.size, 0, none⟩ = some (.slice a la ca) ∧ w'.cell? ⟨w.heap.size, 1, none⟩ = some (.slice ah nh ch)) ∧ (w'.cell? ⟨w.heap.size + 1, 0, none⟩ = some (.int .i64 p.1) ∧ w'.cell? ⟨w.heap.size + 1, 1, none⟩ = some (.int .i64 p.2)) ∧ (w'.cell? ⟨w.heap.size + 2, 0, none⟩ = some (.int .i64 q.1) ∧ w'.cell? ⟨w.heap.size + 2, 1, none⟩ = some (.int .i64 q.2))) w2 := ⟨⟨cellB J hS0.1.1, cellB J hS0.1.2⟩, ⟨cellB J hS0.2.1.1, cellB J hS0.2.1.2⟩, ⟨cellB J hS0.2.2.1, cellB J hS0.2.2.2⟩⟩)
      | (go_at_call 20; refine (hE _ H).mono ?_; rintro e w2 ⟨v, rfl, ho, J⟩; obtain ⟨g, c, rfl, hg, hR⟩ := row_of_owns' ho (by omega); rw [hN]; replace H := bw_trans H J; replace hS0 : (fun w' : World => (w'.cell? ⟨w.heap.size, 0, none⟩ = some (.slice a la ca) ∧ w'.cell? ⟨w.heap.size, 1, none⟩ = some (.slice ah nh ch)) ∧ (w'.cell? ⟨w.heap.size + 1, 0, none⟩ = some (.int .i64 p.1) ∧ w'.cell? ⟨w.heap.size + 1, 1, none⟩ = some (.int .i64 p.2)) ∧ (w'.cell? ⟨w.heap.size + 2, 0, none⟩ = some (.int .i64 q.1) ∧ w'.cell? ⟨w.heap.size + 2, 1, none⟩ = some (.int .i64 q.2))) w2 := ⟨⟨cellB J hS0.1.1, cellB J hS0.1.2⟩, ⟨cellB J hS0.2.1.1, cellB J hS0.2.1.2⟩, ⟨cellB J hS0.2.2.1, cellB J hS0.2.2.2⟩⟩)
      | (go_at_call 24; refine (hX g c _ H hR hg).mono ?_; rintro e w2 ⟨rfl, J⟩; replace H := bw_trans H J; replace hS0 : (fun w' : World => (w'.cell? ⟨w.heap.size, 0, none⟩ = some (.slice a la ca) ∧ w'.cell? ⟨w.heap.size, 1, none⟩ = some (.slice ah nh ch)) ∧ (w'.cell? ⟨w.heap.size + 1, 0, none⟩ = some (.int .i64 p.1) ∧ w'.cell? ⟨w.heap.size + 1, 1, none⟩ = some (.int .i64 p.2)) ∧ (w'.cell? ⟨w.heap.size + 2, 0, none⟩ = some (.int .i64 q.1) ∧ w'.cell? ⟨w.heap.size + 2, 1, none⟩ = some (.int .i64 q.2))) w2 := ⟨⟨cellB J hS0.1.1, cellB J hS0.1.2⟩, ⟨cellB J hS0.2.1.1, cellB J hS0.2.1.2⟩, ⟨cellB J hS0.2.2.1, cellB J hS0.2.2.2⟩⟩))
  all_goals go_wp2_with fail
  all_goals go_ret
  all_goals exact ⟨by first | rfl | simp, bw_trans BW H⟩
end Go.Proofs.YtkncejcpeejkkaaGreatDoor
namespace Go.Proofs.YtkncejcpeejkkaaGreatDoor
open Go.RowKit Go.Sort

set_option maxRecDepth 100000 in
set_option maxHeartbeats 4000000 in
theorem sPathOk_any (a ah : Option Addr) (la ca nh ch : Nat) (o : List P2) (hs : List (List P2)) (r : Int) (ap : Option Addr) (np cp : Nat) (l : List P2) (w : World) (h : Plt w a la ah nh o hs) (hP : Pts w.heap.size w ap np l) :
    Calls Tryz.prog 7 #[.agg #[.slice a la ca, .slice ah nh ch], .int .i64 r, .slice ap np cp] w fun e W' => e = .returned (.bool (pathV o hs r l)) ∧ Below w.heap.size w W' := by
  obtain ⟨W, hW, BW, TP⟩ : ∃ W, W = w.alloc (.cells #[.slice a la ca, .slice ah nh ch] 32) ∧ Below w.heap.size w W ∧ W.heap[w.heap.size]? = some (.cells #[.slice a la ca, .slice ah nh ch] 32 (0, 0)) := ⟨_, rfl, (by repeat (first | exact bw_refl _ | assumption | apply bw_drewN | apply bw_drew | apply bw_alloc | refine bw_set ?_ (by simp) _)), heap_new _ _⟩
  have zB := BW.size
  replace hP := (hP.below BW).grow zB
  have hh := h.below BW
  have hOk := sPlateOk_any a ah la ca nh ch o hs W hh
  obtain ⟨t0, t1⟩ := blk_2 TP
  have hIn := fun V => in_any r 1 9 V
  rw [inR_r] at hIn
  have zP := blk_lt TP
  cases hv : plV o hs
  · have e1 : Hid (pathV o hs r l = false) := by change _ = _; unfold pathV; rw [hv, Bool.and_false]; rfl
    rw [hv] at hOk
    go_enter Tryz.func7, Tryz.ntmps7
    go_upto_region 1 with fail
    rw [← hW]
    clear hW
    go_wp2_with fail
    refine hOk.mono ?_
    rintro e w1 ⟨rfl, J⟩
    go_wp2_with fail
    go_ret
    exact ⟨by rw [e1.out]; rfl, bw_trans BW J⟩
  rw [hv] at hOk
  cases hr : rV r
  · have e1 : Hid (pathV o hs r l = false) := by change _ = _; unfold pathV; rw [hr]; rfl
    rw [hr] at hIn
    go_enter Tryz.func7, Tryz.ntmps7
    go_upto_region 1 with fail
    rw [← hW]
    clear hW
    go_wp2_with fail
    refine hOk.mono ?_
    rintro e w1 ⟨rfl, J⟩
    go_wp2_with fail
    refine (hIn _).mono ?_
    rintro e w2 ⟨rfl, rfl⟩
    go_wp2_with fail
    go_ret
    exact ⟨by rw [e1.out]; rfl, bw_trans BW J⟩
  rw [hr] at hIn
  rw [pathV_of hr hv]
  obtain ⟨hlen, hP⟩ := hP
  have HL : Hid (l.length = np) := hlen
  by_cases c1 : np = 0
  · subst c1
    have e1 : Hid (pathT o hs r l = false) := pathT_len (by rw [hlen]; omega)
    clear hP hlen
    go_enter Tryz.func7, Tryz.ntmps7
    go_upto_region 1 with fail
    rw [← hW]
    clear hW
    go_wp2_with fail
    refine hOk.mono ?_
    rintro e w1 ⟨rfl, J⟩
    go_wp2_with fail
    refine (hIn _).mono ?_
    rintro e w2 ⟨rfl, rfl⟩
    go_wp2_with fail
    go_ret
    exact ⟨by rw [e1.out]; rfl, bw_trans BW J⟩
  have i0 : ((np : Int) == 0) = false := by simp; omega
  by_cases c4 : 400 < np
  · have e1 : Hid (pathT o hs r l = false) := pathT_len (by rw [hlen]; omega)
    have i2 : (400 : Int) < (np : Int) := by omega
    clear hP hlen
    go_enter Tryz.func7, Tryz.ntmps7
    go_upto_region 1 with fail
    rw [← hW]
    clear hW
    go_wp2_with fail
    refine hOk.mono ?_
    rintro e w1 ⟨rfl, J⟩
    go_wp2_with fail
    refine (hIn _).mono ?_
    rintro e w2 ⟨rfl, rfl⟩
    go_wp2_with fail
    go_ret
    exact ⟨by rw [e1.out]; rfl, bw_trans BW J⟩
  have i2 : ¬ (400 : Int) < (np : Int) := by omega
  rcases hP with hz | ⟨g, off, rfl, hg, hc⟩
  · omega
  have HC0 : Hid (∀ j, j < np → W.cell? ⟨g, off + j * 2, none⟩ = some (.int .i64 (ptAt l j).1) ∧ W.cell? ⟨g, off + j * 2 + 1, none⟩ = some (.int .i64 (ptAt l j).2)) := hc
  clear hc hlen
  have n3 := plE_ne hv
  have n24 := plE_len o hs
  obtain ⟨N, hN⟩ : ∃ N, (plE o hs).length = N := ⟨_, rfl⟩
  go_enter Tryz.func7, Tryz.ntmps7
  go_upto_region 1 with fail
  rw [← hW]
  clear hW
  go_wp2_with fail
  refine hOk.mono ?_
  rintro e w1 ⟨rfl, J⟩
  go_wp2_with fail
  refine (hIn _).mono ?_
  rintro e w2 ⟨rfl, rfl⟩
  replace TP := keep J TP
  clear t0 t1 hOk
  obtain ⟨t0, t1⟩ := blk_2 TP
  go_wp2_with fail
  refine (l11Edges_ok a ah la ca nh ch o hs hv _ (hh.below J)).mono ?_
  rintro e w3 ⟨v, rfl, ho, J2⟩
  obtain ⟨ge, ce, rfl, hge, hR⟩ := row_of_owns' ho (by omega)
  rw [hN]
  have J3 := bw_trans J J2
  replace TP := keep J2 TP
  replace hh := hh.below J3
  have K := bw_trans BW J3
  have HC : Hid (∀ j, j < np → w3.cell? ⟨g, off + j * 2, none⟩ = some (.int .i64 (ptAt l j).1) ∧ w3.cell? ⟨g, off + j * 2 + 1, none⟩ = some (.int .i64 (ptAt l j).2)) := fun j hj => ⟨(J3.cell (p := ⟨g, off + j * 2, none⟩) hg).trans (HC0.out j hj).1, (J3.cell (p := ⟨g, off + j * 2 + 1, none⟩) hg).trans (HC0.out j hj).2⟩
  have hg3 : g < w3.heap.size := by have := J3.size; omega
  have HE : Hid (∀ s ∈ plE o hs, sgP s.1 s.2 = true) := fun s hs' => plE_ok hv hs'
  have zP3 := blk_lt TP
  clear t0 t1 J J2 J3 ho HC0 hg hIn zP
  go_wp2_with fail
  go_loopw [8] (fun i wr => ∃ k : Nat, k ≤ np ∧ i = .int .i64 k ∧ (∀ j, j < k → ptB (ptAt l j).1 (ptAt l j).2 = true) ∧ (0 < k → fitI o hs r (ptAt l 0) = true) ∧ (∀ j, j + 1 < k → mayT o hs r (ptAt l j) (ptAt l (j + 1)) = true) ∧ Below w3.heap.size w3 wr) (fun i _ => np - (intOf i).toNat)
  case atStart => exact ⟨0, Nat.zero_le _, rfl, fun j hj => absurd hj (Nat.not_lt_zero _), fun h => absurd h (Nat.lt_irrefl _), fun j hj => absurd hj (by omega), bw_refl _⟩
  case round =>
    obtain ⟨k, hk, rfl, hpt, hft, hst, hnx⟩ := hrel
    have HPT : Hid (∀ j, j < k → ptB (ptAt l j).1 (ptAt l j).2 = true) := hpt
    have HFT : Hid (0 < k → fitI o hs r (ptAt l 0) = true) := hft
    have HST : Hid (∀ j, j + 1 < k → mayT o hs r (ptAt l j) (ptAt l (j + 1)) = true) := hst
    clear hpt hft hst
    have KW := bw_trans K hnx
    by_cases hlt : k < np
    case neg =>
      obtain rfl : k = np := by omega
      have e1 : Hid (pathT o hs r l = true) := pathT_iff.2 ⟨by rw [HL.out]; omega, HPT.out 0 (by omega), HFT.out (by omega), fun i hi => HST.out i (by rw [HL.out] at hi; exact hi)⟩
      go_wp2_with fail
      go_ret
      exact ⟨by rw [e1.out]; rfl, KW⟩
    case pos =>
      have i3 : (0 : Int) ≤ (k : Int) := Int.natCast_nonneg _
      have i4 : (k : Int) < (np : Int) := by omega
      obtain ⟨d0, d1⟩ := HC.out k hlt
      have q0 := cell_regrown ((hnx.cell (p := ⟨g, off + k * 2, none⟩) hg3).trans d0)
      have q1 := cell_regrown ((hnx.cell (p := ⟨g, off + k * 2 + 1, none⟩) hg3).trans d1)
      have hhw := hh.below hnx
      have hRw := hR.below hnx hge
      have hgw : ge < wr.heap.size := by have := hnx.size; omega
      obtain ⟨t0, t1⟩ := reg_2 (keep hnx TP)
      have HP0 := fun V => sPt_raw (ptAt l k) V
      clear d0 d1
      cases hp : ptB (ptAt l k).1 (ptAt l k).2
      case false =>
        have e1 : Hid (pathT o hs r l = false) := by
          change _ = _
          rw [Bool.eq_false_iff]; intro hc; rw [pathT_ok hc (by rw [HL.out]; exact hlt)] at hp; cases hp
        have X1 : Hid (∀ w, Calls Tryz.prog 21 #[.agg #[.int .i64 (ptAt l k).1, .int .i64 (ptAt l k).2]] w fun e w' => e = .returned (.bool false) ∧ Below w.heap.size w w') := fun w => by have := HP0 w; rwa [hp] at this
        clear HP0 hp
        go_wp2_with fail
        refine wp_region_quiet_below (by kernel_rfl) (by kernel_rfl) ?_
        repeat (first | go_big_quiet_step (first | (go_at_call 21; with_reducible exact Calls.regrown_of (X1.out _))))
        refine wpQuiet_nil ?_
        intro _ hw'
        obtain ⟨⟨dq, osq⟩, hw''⟩ := hw'
        subst hw''
        have J := below_regrown wr dq osq
        generalize grow (redrawn wr dq) osq = v1 at J ⊢
        go_wp2_with fail
        go_ret
        exact ⟨by rw [e1.out]; rfl, bw_trans KW J⟩
      case true =>
        have X1 : Hid (∀ w, Calls Tryz.prog 21 #[.agg #[.int .i64 (ptAt l k).1, .int .i64 (ptAt l k).2]] w fun e w' => e = .returned (.bool true) ∧ Below w.heap.size w w') := fun w => by have := HP0 w; rwa [hp] at this
        have HQ : Hid (ptB (ptAt l k).1 (ptAt l k).2 = true) := hp
        clear HP0
        rcases Nat.eq_zero_or_pos k with hk0 | hk0
        · subst hk0
          have q0' : ∀ (d : Nat) (os : Array Obj), (grow (redrawn wr d) os).cell? ⟨g, off, none⟩ = some (.int .i64 (ptAt l 0).1) := by simpa using q0
          have q1' : ∀ (d : Nat) (os : Array Obj), (grow (redrawn wr d) os).cell? ⟨g, off + 1, none⟩ = some (.int .i64 (ptAt l 0).2) := by simpa using q1
          have i4' : (0 : Int) < (np : Int) := by omega
          clear q0 q1 i3 i4
          have hF := fun d os => sFits_ok a ah la ca nh ch o hs ge N ce (plE o hs) r (ptAt l 0) (grow (redrawn wr d) os) (hhw.below (below_regrown wr d os)) hv hr hp (hRw.below (below_regrown wr d os) hgw) (Nat.lt_of_lt_of_le hgw (below_regrown wr d os).size) hN (by omega) HE.out
          have X2' : ∀ b, fitI o hs r (ptAt l 0) = b → Hid (∀ d os, Calls Tryz.prog 22 #[.agg #[.slice a la ca, .slice ah nh ch], .slice (some ⟨ge, 0, none⟩) N ce, .int .i64 r, .agg #[.int .i64 (ptAt l 0).1, .int .i64 (ptAt l 0).2]] (grow (redrawn wr d) os) fun e w' => e = .returned (.bool b) ∧ Below (grow (redrawn wr d) os).heap.size (grow (redrawn wr d) os) w') := fun b hb d os => by
            have := hF d os
            rw [← fitI_all hr hv hp, hb] at this
            exact this
          clear hF hp
          cases hf : fitI o hs r (ptAt l 0)
          case false =>
            have X2 := X2' false hf
            have e1 : Hid (pathT o hs r l = false) := pathT_fit hf
            clear X2'
            go_wp2_with fail
            refine wp_region_quiet_below (by kernel_rfl) (by kernel_rfl) ?_
            repeat (first | go_big_quiet_step (first | (go_at_call 21; with_reducible exact Calls.regrown_of (X1.out _)) | (go_at_call 22; with_reducible exact Calls.regrown_of (X2.out _ _))))
            refine wpQuiet_nil ?_
            intro _ hw'
            obtain ⟨⟨dq, osq⟩, hw''⟩ := hw'
            subst hw''
            have J := below_regrown wr dq osq
            generalize grow (redrawn wr dq) osq = v1 at J ⊢
            go_wp2_with fail
            go_ret
            exact ⟨by rw [e1.out]; rfl, bw_trans KW J⟩
          case true =>
            have X2 := X2' true hf
            have HFT0 : Hid (fitI o hs r (ptAt l 0) = true) := hf
            clear X2' hf
            go_wp2_with fail
            refine wp_region_quiet_below (by kernel_rfl) (by kernel_rfl) ?_
            repeat (first | go_big_quiet_step (first | (go_at_call 21; with_reducible exact Calls.regrown_of (X1.out _)) | (go_at_call 22; with_reducible exact Calls.regrown_of (X2.out _ _))))
            refine wpQuiet_nil ?_
            intro _ hw'
            obtain ⟨⟨dq, osq⟩, hw''⟩ := hw'
            subst hw''
            have J := below_regrown wr dq osq
            generalize grow (redrawn wr dq) osq = v1 at J ⊢
            go_wp2_with fail
            go_roundw
            case rel => exact ⟨1, by omega, by simp, fun j hj => by obtain rfl : j = 0 := (by omega); exact HQ.out, (fun _ => by first | exact HFT0.out | trivial), fun j hj => absurd hj (by omega), bw_trans hnx J⟩
            case measure => simp [intOf]; omega
        · obtain ⟨q, rfl⟩ : ∃ q, k = q + 1 := ⟨k - 1, by omega⟩
          have hpq := HPT.out q (by omega)
          obtain ⟨d0, d1⟩ := HC.out q (by omega)
          have s0 := cell_regrown ((hnx.cell (p := ⟨g, off + q * 2, none⟩) hg3).trans d0)
          have s1 := cell_regrown ((hnx.cell (p := ⟨g, off + q * 2 + 1, none⟩) hg3).trans d1)
          have j1 : IntKind.i64.wrap ((q : Int)) = (q : Int) := wrap_small (by omega) (by omega)
          have j2 : (0 : Int) ≤ (q : Int) := Int.natCast_nonneg _
          have j3 : (q : Int) < (np : Int) := by omega
          have j4 : ((q : Int) + 1 = 0) = False := by simp; omega
          have j5 : (0 : Int) < (q : Int) + 1 := by omega
          have j6 : ((q : Int) + 1 == 0) = false := by simp; omega
          have hB := fun V => sBeside_ok (ptAt l q) (ptAt l (q + 1)) V hpq hp
          clear d0 d1
          by_cases hd : dt (ptAt l q).1 (ptAt l q).2 (ptAt l (q + 1)).1 (ptAt l (q + 1)).2 (ptAt l (q + 1)).1 (ptAt l (q + 1)).2 = 1
          case neg =>
            have e1 : Hid (pathT o hs r l = false) := pathT_step (i := q) (by rw [HL.out]; exact hlt) (by rw [Bool.eq_false_iff]; intro hc; exact hd (mayT_parts hc).2.2.1)
            have X2 : Hid (∀ V, Calls Tryz.prog 23 #[.agg #[.int .i64 (ptAt l q).1, .int .i64 (ptAt l q).2], .agg #[.int .i64 (ptAt l (q+1)).1, .int .i64 (ptAt l (q+1)).2]] V fun e w' => e = .returned (.bool false) ∧ Below V.heap.size V w') := fun V => by have := hB V; rwa [decide_eq_false hd] at this
            clear hB hd
            go_wp2_with fail
            refine wp_region_quiet_below (by kernel_rfl) (by kernel_rfl) ?_
            repeat (first | go_big_quiet_step (first | (go_at_call 21; with_reducible exact Calls.regrown_of (X1.out _)) | (go_at_call 23; with_reducible exact Calls.regrown_of (X2.out _))))
            refine wpQuiet_nil ?_
            intro _ hw'
            obtain ⟨⟨dq, osq⟩, hw''⟩ := hw'
            subst hw''
            have J := below_regrown wr dq osq
            generalize grow (redrawn wr dq) osq = v1 at J ⊢
            go_wp2_with fail
            go_ret
            exact ⟨by rw [e1.out]; rfl, bw_trans KW J⟩
          case pos =>
            have X2 : Hid (∀ V, Calls Tryz.prog 23 #[.agg #[.int .i64 (ptAt l q).1, .int .i64 (ptAt l q).2], .agg #[.int .i64 (ptAt l (q+1)).1, .int .i64 (ptAt l (q+1)).2]] V fun e w' => e = .returned (.bool true) ∧ Below V.heap.size V w') := fun V => by have := hB V; rwa [decide_eq_true hd] at this
            have hM := fun d os => sMayI_ok a ah la ca nh ch o hs ge N ce r (ptAt l q) (ptAt l (q + 1)) (grow (redrawn wr d) os) (hhw.below (below_regrown wr d os)) hv hr hpq hp hd (hRw.below (below_regrown wr d os) hgw) (Nat.lt_of_lt_of_le hgw (below_regrown wr d os).size) hN
            have X3' : ∀ b, mayI o hs r (ptAt l q) (ptAt l (q + 1)) = b → Hid (∀ d os, Calls Tryz.prog 24 #[.agg #[.slice a la ca, .slice ah nh ch], .slice (some ⟨ge, 0, none⟩) N ce, .int .i64 r, .agg #[.int .i64 (ptAt l q).1, .int .i64 (ptAt l q).2], .agg #[.int .i64 (ptAt l (q+1)).1, .int .i64 (ptAt l (q+1)).2]] (grow (redrawn wr d) os) fun e w' => e = .returned (.bool b) ∧ Below (grow (redrawn wr d) os).heap.size (grow (redrawn wr d) os) w') := fun b hb d os => by
              have := hM d os
              rw [hb] at this
              exact this
            clear hB hM
            cases hm : mayI o hs r (ptAt l q) (ptAt l (q + 1))
            case false =>
              have X3 := X3' false hm
              have e1 : Hid (pathT o hs r l = false) := pathT_step (i := q) (by rw [HL.out]; exact hlt) (by rw [Bool.eq_false_iff]; intro hc; rw [(mayT_parts hc).2.2.2] at hm; cases hm)
              clear X3' hm hd
              go_wp2_with fail
              refine wp_region_quiet_below (by kernel_rfl) (by kernel_rfl) ?_
              repeat (first | go_big_quiet_step (first | (go_at_call 21; with_reducible exact Calls.regrown_of (X1.out _)) | (go_at_call 23; with_reducible exact Calls.regrown_of (X2.out _)) | (go_at_call 24; with_reducible exact Calls.regrown_of (X3.out _ _))))
              refine wpQuiet_nil ?_
              intro _ hw'
              obtain ⟨⟨dq, osq⟩, hw''⟩ := hw'
              subst hw''
              have J := below_regrown wr dq osq
              generalize grow (redrawn wr dq) osq = v1 at J ⊢
              go_wp2_with fail
              go_ret
              exact ⟨by rw [e1.out]; rfl, bw_trans KW J⟩
            case true =>
              have X3 := X3' true hm
              have HS1 : Hid (mayT o hs r (ptAt l q) (ptAt l (q + 1)) = true) := by change _ = _; unfold mayT; rw [hpq, hp, decide_eq_true hd, hm]; rfl
              clear X3' hm hd
              go_wp2_with fail
              refine wp_region_quiet_below (by kernel_rfl) (by kernel_rfl) ?_
              repeat (first | go_big_quiet_step (first | (go_at_call 21; with_reducible exact Calls.regrown_of (X1.out _)) | (go_at_call 23; with_reducible exact Calls.regrown_of (X2.out _)) | (go_at_call 24; with_reducible exact Calls.regrown_of (X3.out _ _))))
              refine wpQuiet_nil ?_
              intro _ hw'
              obtain ⟨⟨dq, osq⟩, hw''⟩ := hw'
              subst hw''
              have J := below_regrown wr dq osq
              generalize grow (redrawn wr dq) osq = v1 at J ⊢
              go_wp2_with fail
              go_roundw
              case rel => exact ⟨q + 1 + 1, by omega, by simp, fun j hj => by rcases Nat.lt_or_ge j (q + 1) with h | h; exact HPT.out j h; obtain rfl : j = q + 1 := (by omega); exact HQ.out, fun _ => HFT.out (by omega), fun j hj => by rcases Nat.lt_or_ge (j + 1) (q + 1) with h | h; exact HST.out j h; obtain rfl : j = q := (by omega); exact HS1.out, bw_trans hnx J⟩
              case measure => simp [intOf]; omega
end Go.Proofs.YtkncejcpeejkkaaGreatDoor
namespace Go.Proofs.YtkncejcpeejkkaaGreatDoor
open Go.RowKit Go.Sort

set_option maxRecDepth 100000 in
set_option maxHeartbeats 2000000 in
theorem exPathOk_walk (W : World) (a : Option Addr) (la ca : Nat) (o : List P2) (ah : Option Addr) (nh ch : Nat) (hs : List (List P2)) (hC : Came W a la ca o) (hH : CameH W ah nh hs) (tr : Int) (_ : (Lit.int .i64 tr).wf = true) (ap : Option Addr) (np cp : Nat) (lp : List P2) (hCP : Came W ap np cp lp) (ad : Addr) (h0 : Sent ad W) :
    Calls Tryz.prog 3 #[.agg #[.slice a la ca, .slice ah nh ch], .int .i64 tr, .slice ap np cp] W fun e w' => e = .returned (.bool true) ∧ Below W.heap.size W w' := by
  have hla := hC.len.2
  have hP := hC.pts
  have hm := hCP.len.2
  have hlp := hCP.len.1
  have hPP := hCP.pts
  obtain ⟨hlen, hnm, A, L, C, hS, hHH⟩ := hH
  have hcall := szPlate_any a ah la ca nh ch A L C hla hnm (fun j hj => (hHH j hj).len.2)
  obtain ⟨W1, hW1, BW, T⟩ : ∃ W1, W1 = W.alloc (.cells #[.slice a la ca, .slice ah nh ch] 25) ∧ Below W.heap.size W W1 ∧ W1.heap[W.heap.size]? = some (.cells #[.slice a la ca, .slice ah nh ch] 25 (0, 0)) := ⟨_, rfl, (by repeat (first | exact bw_refl _ | assumption | apply bw_drewN | apply bw_drew | apply bw_alloc | refine bw_set ?_ (by simp) _)), heap_new _ _⟩
  replace hcall := hcall W1 ((hS.below BW).grow BW.size)
  obtain ⟨t0, t1⟩ := blk_2 T
  go_enter Tryz.func3, Tryz.ntmps3
  go_upto_region 2 with fail
  rw [← hW1]
  clear hW1
  go_wp2_with fail
  refine hcall.mono ?_
  clear hcall
  rintro e w1 ⟨J1, hr⟩
  have K1 := bw_trans BW J1
  rcases hr with rfl | ⟨r, r0, r1, rfl, hla1, hn, hLL⟩
  · go_wp2_with fail
    go_ret
    exact ⟨rfl, K1⟩
  have hr0 : ¬ (r < 0) := by omega
  have hPl : Plt w1 a la ah nh o hs := ⟨hla1, (hP.below K1).grow K1.size, hlen, A, L, C, (hS.below K1).grow K1.size, fun j hj => ⟨hLL j hj, ((hHH j hj).pts.below K1).grow K1.size⟩⟩
  clear hS hHH hP hC hCP hLL
  replace T := keep J1 T
  clear t0 t1 J1
  obtain ⟨t0, t1⟩ := blk_2 T
  have hz := fun w => sz_any ap np cp r r0 (by omega) hm w
  by_cases hnp : r < (np : Int)
  · have hz' : ∀ w, Calls Tryz.prog 6 #[.slice ap np cp, .int .i64 r] w fun e w' => e = .returned (.int .i64 (-1)) ∧ w' = w := fun w => by have := hz w; rwa [if_pos hnp] at this
    go_wp2_with fail
    refine (hz' _).mono ?_
    rintro e w2 ⟨rfl, rfl⟩
    go_wp2_with fail
    go_ret
    exact ⟨rfl, K1⟩
  have hz' : ∀ w, Calls Tryz.prog 6 #[.slice ap np cp, .int .i64 r] w fun e w' => e = .returned (.int .i64 (r - np)) ∧ w' = w := fun w => by have := hz w; rwa [if_neg hnp] at this
  have hnn : ¬ (r - (np : Int) < 0) := by omega
  have hn2 : np ≤ 1048576 := by omega
  clear hz
  go_wp2_with fail
  refine (hz' _).mono ?_
  rintro e w2 ⟨rfl, rfl⟩
  clear hz'
  go_wp2_with fail
  refine (toPlate_any a ah la ca nh ch o hs _ hPl hn).mono ?_
  rintro e w3 ⟨g3, gh3, rfl, hPl3, J⟩
  replace K1 := bw_trans K1 J
  replace T := keep J T
  replace hPl := hPl.below J
  clear t0 t1 J
  obtain ⟨t0, t1⟩ := blk_2 T
  go_wp2_with fail
  refine (toPts_any ap np cp lp _ ((hPP.below K1).grow K1.size) hn2).mono ?_
  rintro e w4 ⟨g4, rfl, hg4, hb4, J⟩
  replace K1 := bw_trans K1 J
  replace T := keep J T
  replace hPl := hPl.below J
  replace hPl3 := hPl3.below J
  clear t0 t1 J
  obtain ⟨t0, t1⟩ := blk_2 T
  go_wp2_with fail
  refine (sPathOk_any _ _ la la nh nh o hs tr _ np np lp _ hPl3 (hb4.pts hlp)).mono ?_
  rintro e w5 ⟨rfl, J⟩
  replace K1 := bw_trans K1 J
  replace T := keep J T
  replace hPl := hPl.below J
  clear t0 t1 J hPl3 hb4 hg4
  obtain ⟨t0, t1⟩ := blk_2 T
  go_wp2_with fail
  refine (toPlate_any a ah la ca nh ch o hs _ hPl hn).mono ?_
  rintro e w6 ⟨g6, gh6, rfl, hPl6, J⟩
  replace K1 := bw_trans K1 J
  replace T := keep J T
  replace hPl := hPl.below J
  clear t0 t1 J
  obtain ⟨W7, hW7, B7, X⟩ : ∃ W7, W7 = w6.alloc (.cells #[.slice (some ⟨g6, 0, none⟩) la la, .slice (some ⟨gh6, 0, none⟩) nh nh] 32) ∧ Below w6.heap.size w6 W7 ∧ W7.heap[w6.heap.size]? = some (.cells #[.slice (some ⟨g6, 0, none⟩) la la, .slice (some ⟨gh6, 0, none⟩) nh nh] 32 (0, 0)) := ⟨_, rfl, (by repeat (first | exact bw_refl _ | assumption | apply bw_drewN | apply bw_drew | apply bw_alloc | refine bw_set ?_ (by simp) _)), heap_new _ _⟩
  replace K1 := bw_trans K1 B7
  replace T := keep B7 T
  replace hPl := hPl.below B7
  replace hPl6 := hPl6.below B7
  clear B7
  go_upto_region 10 with fail
  rw [← hW7]
  clear hW7
  obtain ⟨t0, t1⟩ := blk_2 T
  obtain ⟨x0, x1⟩ := blk_2 X
  go_wp2_with fail
  refine (toPts_any ap np cp lp _ ((hPP.below K1).grow K1.size) hn2).mono ?_
  rintro e w8 ⟨g8, rfl, hg8, hb8, J⟩
  replace K1 := bw_trans K1 J
  replace T := keep J T
  replace X := keep J X
  replace hPl := hPl.below J
  replace hPl6 := hPl6.below J
  clear t0 t1 x0 x1 J
  obtain ⟨t0, t1⟩ := blk_2 T
  obtain ⟨x0, x1⟩ := blk_2 X
  go_wp2_with fail
  refine (pathOk_any _ _ la la nh nh o hs tr _ np np lp (Nat.le_refl _) ad _ (h0.below K1) hPl6 (hb8.pts hlp)).mono ?_
  rintro e w9 ⟨rfl, J⟩
  replace K1 := bw_trans K1 J
  replace T := keep J T
  replace X := keep J X
  replace hPl := hPl.below J
  replace hPl6 := hPl6.below J
  replace hb8 := hb8.below J
  clear t0 t1 x0 x1 J
  obtain ⟨t0, t1⟩ := blk_2 T
  obtain ⟨x0, x1⟩ := blk_2 X
  have hne : ∀ b : Bool, (b != b) = false := by simp
  go_wp2_with fail
  have TD : w9.drew.heap[W.heap.size]? = some (.cells #[.slice a la ca, .slice ah nh ch] 25) := T
  have XD : w9.drew.heap[w6.heap.size]? = some (.cells #[.slice (some ⟨g6, 0, none⟩) la la, .slice (some ⟨gh6, 0, none⟩) nh nh] 32) := X
  have hPlD : Plt w9.drew a la ah nh o hs := hPl
  have hPl6D : Plt w9.drew (some ⟨g6, 0, none⟩) la (some ⟨gh6, 0, none⟩) nh o hs := hPl6
  have hb8D : PtBlk w9.drew g8 np lp np := hb8
  have KD : Below W.heap.size W w9.drew := K1.drew
  go_region_held3 (fun w' => (w'.cell? ⟨W.heap.size, 0, none⟩ = some (.slice a la ca) ∧ w'.cell? ⟨W.heap.size, 1, none⟩ = some (.slice ah nh ch)) ∧ (w'.cell? ⟨w6.heap.size, 0, none⟩ = some (.slice (some ⟨g6, 0, none⟩) la la) ∧ w'.cell? ⟨w6.heap.size, 1, none⟩ = some (.slice (some ⟨gh6, 0, none⟩) nh nh)))
    (first | go_keep | exact ⟨blk_2 TD, blk_2 XD⟩)
    (first
      | (go_at_call 8; refine (toPlate_any a ah la ca nh ch o hs _ hPlD hn).mono ?_; rintro e w10 ⟨g10, gh10, rfl, hPl10, J⟩; replace KD := bw_trans KD J; replace TD := keep J TD; replace XD := keep J XD; replace hPl6D := hPl6D.below J; replace hb8D := hb8D.below J; clear J)
      | (go_at_call 11; refine (eqPlate_same _ _ _ _ la la nh nh la nh o hs _ hPl6D hPl10 hn).mono ?_; rintro e w11 ⟨rfl, J⟩; replace KD := bw_trans KD J; replace TD := keep J TD; replace XD := keep J XD; replace hb8D := hb8D.below J; clear J))
  clear t0 t1 x0 x1
  go_wp2_with fail
  refine (toPts_any ap np cp lp _ ((hPP.below KD).grow KD.size) hn2).mono ?_
  rintro e w12 ⟨g12, rfl, hg12, hb12, J⟩
  replace KD := bw_trans KD J
  replace hb8D := hb8D.below J
  clear J
  go_wp2_with fail
  refine (eqPts_same _ _ np _ _ lp _ (hb8D.pts hlp) (hb12.pts hlp) hn2).mono ?_
  rintro e w13 ⟨rfl, J⟩
  go_wp2_with fail
  go_ret
  exact ⟨rfl, bw_trans KD J⟩
end Go.Proofs.YtkncejcpeejkkaaGreatDoor
namespace Go.Proofs.YtkncejcpeejkkaaGreatDoor
open Go.ChangeShapes Go.WideShapes Go.ChangeAt Go.RowKit

theorem own : ownKnob Tryz.prog.godebug = none := by kernel_rfl
theorem laidOut : laidOutB Tryz.prog = true := by kernel_rfl
theorem gE : Tryz.prog.globalNamed "loop.example/mortiser/impl.errNoFrac" = some 0 := by kernel_rfl
theorem gEType : (Tryz.prog.globals[0]?).map (·.type) = some 123 := by kernel_rfl
theorem cellsES : Tryz.prog.cellsOf 187 = 1 := by kernel_rfl
theorem cellsStr : Tryz.prog.cellsOf 9 = 1 := by kernel_rfl
theorem star : "*" ++ "errors.errorString" = "*errors.errorString" := by decide
theorem rowES (u : TypeId) (h : Tryz.prog.typeName? 3 u = some "*errors.errorString") : u = 161 :=
  typeName_ptr_named (nm := "errors.errorString") (by rw [star]; kernel_rfl) (by kernel_rfl) (by decide) u (by rw [star]; exact h)

/-- What the list gives: the variable holds a pointer to an error of errors.New's make. -/
theorem sent_of_met {W : World} (h : laidMet Tryz.prog [("loop.example/mortiser/impl.errNoFrac", Rows.laid_loop_example_mortiser_impl_errNoFrac)] W) :
    ∃ a, W.var? Tryz.prog "loop.example/mortiser/impl.errNoFrac" = some #[.iface 161 (.pointer (some a))] ∧ Sent a W := by
  obtain ⟨a, s, hv, _, _, _⟩ := laid_sentinel h gE gEType Tryz.underlying123 rowES Tryz.underlying161 Tryz.underlying187 rfl rfl Tryz.underlying9 cellsES cellsStr
  exact ⟨a, hv, by simpa [Sent] using World.var?_cell gE hv 0⟩
theorem sent_of_laid {W : World} (h : laidMetH Tryz.prog [("loop.example/mortiser/impl.errNoFrac", Rows.laid_loop_example_mortiser_impl_errNoFrac)] W) :
    ∃ a, W.var? Tryz.prog "loop.example/mortiser/impl.errNoFrac" = some #[.iface 161 (.pointer (some a))] ∧ Sent a W := by
  rw [MakeChecks.laidMetH_plain _ _ _ (by kernel_rfl)] at h
  exact sent_of_met h

/-- The variable read again as a token. -/
theorem vars_again {H : Type} (enc : TypeId × Value → H) {X : World} {a : Addr} (hv : X.var? Tryz.prog "loop.example/mortiser/impl.errNoFrac" = some #[.iface 161 (.pointer (some a))]) (sp : Nat → Bool) :
    DataW.TrodVars enc Tryz.prog X sp ["loop.example/mortiser/impl.errNoFrac"] [tok enc (.iface 161 (.pointer (some a)))] [.cell 0 0] :=
  vars_read1 enc gE gEType Tryz.underlying123 hv trivial sp

/-- The door's own heap meets the condition. -/
theorem door_met (os : Os) (args : Array Value) : laidMetH Tryz.prog [("loop.example/mortiser/impl.errNoFrac", Rows.laid_loop_example_mortiser_impl_errNoFrac)] ((World.doorLaid Tryz.prog 28 os).forCall (fun _ _ => 0) ⟨#[], args, []⟩).memory :=
  laidMetH_of_parts3 (fuel := 8) (laidMet_of_run' 8 (by kernel_rfl) (by kernel_rfl)) (by kernel_rfl) (by kernel_rfl)
end Go.Proofs.YtkncejcpeejkkaaGreatDoor
namespace Go.Proofs.YtkncejcpeejkkaaGreatDoor
open Go.ChangeShapes Go.WideShapes Go.ChangeAt Go.RowKit Go.Joins
open Go.ChangeMaps (open_string shut_string)

set_option maxRecDepth 100000 in
theorem fnExactPathOk_lifted (os : Os) (started : os.Started) (H : Type) (enc : TypeId × Value → H) :
    ReturnsInHanded {} Tryz.checked os 3 .any (fun w args => (Rows.fnExactPathOkSpec.pre enc Tryz.prog Tryz.f3 [] false w args ∧ laidMetH Tryz.prog Rows.fnExactPathOkRow.laid w) ∧ sizedMet enc Tryz.prog Tryz.f3 (OpenSpec.ofChange Rows.fnExactPathOkSpec) false w args)
      (Rows.fnExactPathOkSpec.post enc Tryz.prog Tryz.f3 false true false false) := by
  refine returnsInHanded_of_change_and (C := Tryz.checked) (X := fun w _ => laidMetH Tryz.prog Rows.fnExactPathOkRow.laid w) (fun _ _ _ hh h => h.of_heap hh) own started (by kernel_rfl) Tryz.func3
    (ChangeSpec.witness_shaped (enc := enc) (C := Tryz.checked) (os := os) (X := fun w _ => laidMetH Tryz.prog Rows.fnExactPathOkRow.laid w) false (World.doorLaid Tryz.prog 28 os) #[.agg #[.slice none 0 0, .slice none 0 0], .int .i64 0, .slice none 0 0] 8 rfl (World.shaped_of_RefB (by kernel_rfl) (by kernel_rfl)) (by kernel_rfl) (by kernel_rfl) (by kernel_rfl) (door_met os _)) ?_
  intro W base args ds gs before hval0 hW _ _ hL _
  have hval : ∀ (j : Nat) t v, Tryz.f3.params[j]? = some t → args[j]? = some v → Value.okWide Tryz.prog W .any base t v := hval0
  have hW' := hW
  obtain ⟨p, q, hA0, hV, rfl, hfz, hnd⟩ := hW
  have hA : DataW.TrodAll enc Tryz.prog W 0 (fun _ => true) true Tryz.f3.params.toList args.toList ds p := hA0
  rw [Tryz.params3] at hA hval
  obtain ⟨v0, vs0, d0, ds0, p0, q0, hargs, rfl, rfl, h0, r0⟩ := trodAll_cons hA
  obtain ⟨v1, vs1, d1, ds1, p1, q1, rfl, rfl, rfl, h1, r1⟩ := trodAll_cons r0
  obtain ⟨v2, vs2, d2, ds2, p2, q2, rfl, rfl, rfl, h2, r2⟩ := trodAll_cons r1
  obtain ⟨rfl, rfl, rfl⟩ := trodAll_nil r2
  obtain rfl : args = #[v0, v1, v2] := by cases args; simp_all
  obtain ⟨a, hvar, hs⟩ := sent_of_laid hL
  obtain ⟨rfl, rfl⟩ := hV.unique (vars_again enc hvar _)
  have k0 := h0
  have lt0 : ∀ x ∈ p0, x.block < W.heap.size := by obtain ⟨m, hm⟩ := k0; exact DataW.trod_lt m _ _ _ hm
  obtain ⟨a0, la0, ca0, o0, ah0, nh0, ch0, hs0, rfl, w0, wh0⟩ := open_plate (hval 0 25 v0 rfl rfl) h0
  have k1 := h1
  have lt1 : ∀ x ∈ p1, x.block < W.heap.size := by obtain ⟨m, hm⟩ := k1; exact DataW.trod_lt m _ _ _ hm
  obtain ⟨x1, rfl, _, _, wx1⟩ := open_int Tryz.underlying3 (hval 1 3 v1 rfl rfl) h1
  have k2 := h2
  have lt2 : ∀ x ∈ p2, x.block < W.heap.size := by obtain ⟨m, hm⟩ := k2; exact DataW.trod_lt m _ _ _ hm
  obtain ⟨a2, len2, cap2, rfl⟩ := okWide_slice Tryz.underlying22 (hval 2 22 v2 rfl rfl)
  obtain ⟨z2, w2⟩ := open_pts h2
  clear hA0 hval0
  refine (exPathOk_walk W a0 la0 ca0 o0 ah0 nh0 ch0 hs0 w0 wh0 x1 wx1 a2 len2 cap2 z2 w2 a hs).mono fun e W' ⟨he, bel⟩ => ?_
  subst he
  exact ⟨_, rfl, _, _, _, [], _, [.cell 0 0], hW', trodAll_mk1 (shut_bool Tryz.underlying4 _), (trodAll_cons_mk (Below.trod laidOut (by kernel_rfl) (of_decide_eq_true (by kernel_rfl)) k0 bel lt0) (trodAll_cons_mk (Below.trod laidOut (by kernel_rfl) (of_decide_eq_true (by kernel_rfl)) k1 bel lt1) (trodAll_cons_mk (Below.trod laidOut (by kernel_rfl) (of_decide_eq_true (by kernel_rfl)) k2 bel lt2) trodAll_mk0))), vars_again enc (var?_below bel gE hs.lt hvar) _, bel.frame _, fun h => by cases h⟩

theorem fnExactPathOk_said : Rows.FnExactPathOkSaid :=
  OpenClaim.holds_of_wide 3 Tryz.f3 rfl rfl rfl rfl rfl rfl rfl ⟨rfl, rfl, rfl, rfl, rfl⟩ rfl rfl rfl rfl rfl (by kernel_rfl) Tryz.func3 (by kernel_rfl)
    (of_decide_eq_true (by kernel_rfl)) (by unfold Func.isWrapper; first | (rw [if_pos (by decide +kernel)]; kernel_rfl) | (rw [if_neg (by decide +kernel)]; exact ⟨rfl, rfl⟩))
    (fun os started H enc _ => fnExactPathOk_lifted os started H enc)

theorem fnExactPathOk_plain (f : FuncId) (fn : Func) (hf : Tryz.pinned.checked.prog.funcNamed "loop.example/mortiser/laws.FnExactPathOk" = some f) (hfn : Tryz.pinned.checked.prog.funcs[f]? = some fn) :
    true = Tryz.pinned.checked.prog.looks [] ∧ ∀ (j : Nat) t, fn.params[j]? = some t → Tryz.pinned.checked.prog.wantsStandIn t = false := by
  obtain rfl : f = 3 := Option.some.inj ((show Tryz.prog.funcNamed "loop.example/mortiser/laws.FnExactPathOk" = some 3 by kernel_rfl).symm.trans hf) |>.symm
  obtain rfl : fn = Tryz.f3 := (Option.some.inj (Tryz.func3.symm.trans hfn)).symm
  refine ⟨by kernel_rfl, fun j t ht => ?_⟩
  rw [Tryz.params3] at ht
  have hm := Array.mem_of_getElem? ht
  simp only [List.mem_toArray, List.mem_cons, List.not_mem_nil, or_false] at hm
  rcases hm with rfl | rfl | rfl
  · exact (show Tryz.prog.wantsStandIn 25 = false by kernel_rfl)
  · exact (show Tryz.prog.wantsStandIn 3 = false by kernel_rfl)
  · exact (show Tryz.prog.wantsStandIn 22 = false by kernel_rfl)

/-- THE STATEMENT. -/
theorem fnExactPathOk_card : Rows.FnExactPathOkCardSaid :=
  Claim7.holds_tied_plain_at .later [] _ _ _ _ fnExactPathOk_said (fun _ h => by cases h) (by kernel_rfl) (fun _ h => by cases h) fnExactPathOk_row_tie rfl ⟨rfl, rfl⟩ (by kernel_rfl) rfl fnExactPathOk_plain (by kernel_rfl)
end Go.Proofs.YtkncejcpeejkkaaGreatDoor
