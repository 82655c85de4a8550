/-
  OUR OWN TEXT. The law FnMayApart, for every input: the call returns true, and each argument reads as it did. Texts of ours, joined, so that the claim keeps to its number of files. Conditions: none but the row's own.
-/
import Derived.Test.YtmdjhoknlplecaaGreatDoorJFnMayAparta
import Derived.Deep.RegionHeld3
import Derived.Test.YtmdjhoknlplecaaGreatDoorGeoApart
import Derived.Test.YtmdjhoknlplecaaGreatDoorCards
import Derived.Test.YtmdjhoknlplecaaGreatDoorTie
import Derived.ProofKit
import Derived.OpenShut
import Derived.LaidMore
import Derived.MakeChecks
import Derived.Stop.Joined
import Derived.Stop.LaidErr
import Derived.WalkSmall
import Derived.ChangeOld
import Derived.Lib.SmallJoins
namespace Go.Proofs.YtmdjhoknlplecaaGreatDoor
open Go.RowKit Go.Sort

def frAt (fs : List (Int × Int)) (j : Nat) : Int × Int := fs[j]?.getD (0, 1)
theorem fold_take (fs : List (Int × Int)) (f0 : Int × Int) (k : Nat) (hk : k < fs.length) : (fs.take (k + 1)).foldl mn f0 = mn ((fs.take k).foldl mn f0) (frAt fs k) := by
  rw [List.take_add_one, List.foldl_append, List.getElem?_eq_getElem hk]; simp [frAt, hk]
theorem fold_ok (fs : List (Int × Int)) (f0 : Int × Int) (h0 : OkF f0) (hfs : ∀ f ∈ fs, OkF f) : OkF (fs.foldl mn f0) := by
  induction fs generalizing f0 with
  | nil => exact h0
  | cons f fs ih => exact ih _ (mn_ok h0 (hfs f (by simp))) (fun g hg => hfs g (by simp [hg]))
set_option maxRecDepth 100000 in
set_option maxHeartbeats 2000000 in
theorem leastRow_ok (f0 : Int × Int) (fs : List (Int × Int)) (b off len cap : Nat) (ad : Addr) (w : World) (h0 : Sent ad w) (o0 : OkF f0) (hfs : ∀ f ∈ fs, OkF f) (hl : Hid (fs.length = len)) (hlen : len ≤ 1000) (hb : b < w.heap.size)
    (hc : ∀ j, j < len → w.cell? ⟨b, off + j * 2, none⟩ = some (.int .i64 (frAt fs j).1) ∧ w.cell? ⟨b, off + j * 2 + 1, none⟩ = some (.int .i64 (frAt fs j).2)) :
    Calls Tryz.prog 70 #[.agg #[.int .i64 f0.1, .int .i64 f0.2], .slice (some ⟨b, off, none⟩) len cap] w fun e w' => e = .returned (.agg #[.int .i64 (fs.foldl mn f0).1, .int .i64 (fs.foldl mn f0).2]) ∧ Below w.heap.size w w' := by
  obtain ⟨W, hW, H, _, RB, LB⟩ := boxes3 w (.cells #[.int .i64 f0.1, .int .i64 f0.2] 47) (.cells #[.int .i64 0, .int .i64 0] 47) (.cells #[.int .i64 f0.1, .int .i64 f0.2] 47)
  have HT : Hid (∀ k, k < len → (fs.take (k + 1)).foldl mn f0 = mn ((fs.take k).foldl mn f0) (frAt fs k)) := fun k hk => fold_take fs f0 k (by rw [hl.out]; exact hk)
  have HOK : Hid (∀ k, OkF ((fs.take k).foldl mn f0)) := fun k => fold_ok _ _ o0 (fun f hf => hfs f (List.mem_of_mem_take hf))
  have HO2 : Hid (∀ k, k < len → OkF (frAt fs k)) := fun k hk => hfs _ (by unfold frAt; rw [List.getElem?_eq_getElem (by rw [hl.out]; exact hk), Option.getD_some]; exact List.getElem_mem _)
  go_enter Tryz.func70, Tryz.ntmps70
  go_upto_region 3 with fail
  rw [← hW]
  clear hW
  go_loopw [11] (fun i wr => ∃ (k : Nat) (m : Int × Int), k ≤ len ∧ i = .int .i64 k ∧ m = (fs.take k).foldl mn f0 ∧ wr.heap[w.heap.size + 2]? = some (.cells #[.int .i64 m.1, .int .i64 m.2] 47 (0, 0)) ∧ wr.heap[w.heap.size + 1]? = some (.cells #[.int .i64 0, .int .i64 0] 47 (0, 0)) ∧ Below w.heap.size w wr) (fun i _ => len - (intOf i).toNat)
  case atStart => exact ⟨0, f0, Nat.zero_le _, rfl, rfl, LB, RB, H⟩
  case round =>
    obtain ⟨k, m, hk, rfl, hm, LB, RB, H⟩ := hrel
    have hs1 := h0.below H
    have zl := blk_lt LB
    by_cases hlt : k < len
    case neg =>
      obtain rfl : len = k := by omega
      rw [List.take_of_length_le (by rw [hl.out]; exact Nat.le_refl _)] at hm
      obtain ⟨l0, l1⟩ := blk_2 LB
      obtain ⟨q0, q1, qf0, qf1⟩ := blkF RB
      have RB2 := setF2 RB (u0 := .int .i64 m.1) (u1 := .int .i64 m.2)
      obtain ⟨v0, v1⟩ := blk_2 RB2
      have HM : Hid (m = fs.foldl mn f0) := hm
      clear hm
      go_wp2_with fail
      refine bodyPost_ret (v := .agg #[.int .i64 m.1, .int .i64 m.2]) (by simp [results, Tryz.results70, go_sem, v0, v1]) rfl ⟨by rw [HM.out], ?_⟩
      exact bw_set (bw_set H (p := ⟨w.heap.size + 1, 0, none⟩) (by dsimp only; omega) _) (p := ⟨w.heap.size + 1, 1, none⟩) (by dsimp only; omega) _
    case pos =>
      have om : OkF m := by rw [hm]; exact HOK.out k
      have og := HO2.out k hlt
      have hst := HT.out k hlt
      rw [← hm] at hst
      clear hm
      obtain ⟨c0, c1⟩ := hc k hlt
      have d0 := (H.cell (p := ⟨b, off + k * 2, none⟩) hb).trans c0
      have d1 := (H.cell (p := ⟨b, off + k * 2 + 1, none⟩) hb).trans c1
      obtain ⟨l0, l1⟩ := blk_2 LB
      have i0 : (0 : Int) ≤ (k : Int) := Int.natCast_nonneg _
      have i1 : (k : Int) < (len : Int) := by omega
      have k9 : (k : Int) ≤ 1000 := by omega
      generalize frAt fs k = g at *
      have HS : Hid ((fs.take (k + 1)).foldl mn f0 = mn m g) := hst
      clear hst c0 c1
      by_cases c : g.1 * m.2 < m.1 * g.2
      · have m1 : mn m g = g := if_pos c
        have e1 := cmpI_lt _ _ c
        clear c
        go_wp2_with fail
        refine (fracCmp_both g.1 g.2 m.1 m.2 ad _ (hs1.below (bw_alloc (bw_refl _) _)) og om).mono ?_
        rw [e1]
        rintro e w1 ⟨rfl, K⟩
        have FB := keep K (heap_new _ _)
        replace LB := keep K ((heap_old _ _ (blk_lt LB)).trans LB)
        replace RB := keep K ((heap_old _ _ (blk_lt RB)).trans RB)
        replace H := bw_trans (bw_alloc H _) K
        clear l0 l1 K hs1 d0 d1
        have zf := blk_lt FB
        obtain ⟨u0, u1⟩ := blk_2 FB
        obtain ⟨q0, q1, qf0, qf1⟩ := blkF LB
        go_wp2_with fail
        have LB2 := setF2 LB (u0 := .int .i64 g.1) (u1 := .int .i64 g.2)
        have RB2 := setO2 RB (b := w.heap.size + 2) (i := 0) (j := 1) (v := .int .i64 g.1) (u := .int .i64 g.2) (by omega)
        have H2 := bw_set (bw_set H (p := ⟨w.heap.size + 2, 0, none⟩) (by dsimp only; omega) (.int .i64 g.1)) (p := ⟨w.heap.size + 2, 1, none⟩) (by dsimp only; omega) (.int .i64 g.2)
        go_roundw
        case rel => exact ⟨k + 1, g, by omega, by simp, by rw [HS.out, m1], LB2, RB2, H2⟩
        case measure => simp [intOf]; omega
      · have m1 : mn m g = m := if_neg c
        have e1 := cmpI_ge _ _ c
        obtain ⟨x, hx⟩ : ∃ x, cmpI (g.1 * m.2) (m.1 * g.2) = x := ⟨_, rfl⟩
        rw [hx] at e1
        clear c
        have hcall := fracCmp_both g.1 g.2 m.1 m.2 ad (wr.alloc (.cells #[.int .i64 g.1, .int .i64 g.2] 47)) (hs1.below (bw_alloc (bw_refl _) _)) og om
        rw [hx] at hcall
        clear hx
        go_wp2_with fail
        refine hcall.mono ?_
        rintro e w1 ⟨rfl, K⟩
        replace LB := keep K ((heap_old _ _ (blk_lt LB)).trans LB)
        replace RB := keep K ((heap_old _ _ (blk_lt RB)).trans RB)
        replace H := bw_trans (bw_alloc H _) K
        clear l0 l1 K hs1 d0 d1
        go_wp2_with fail
        go_roundw
        case rel => exact ⟨k + 1, m, by omega, by simp, by rw [HS.out, m1], LB, RB, H⟩
        case measure => simp [intOf]; omega
end Go.Proofs.YtmdjhoknlplecaaGreatDoor
namespace Go.Proofs.YtmdjhoknlplecaaGreatDoor
open Go.RowKit Go.Sort

theorem frCells_at (fs : List (Int × Int)) (j : Nat) (hj : j < fs.length) : (frCells fs)[j * 2]? = some (.int .i64 (frAt fs j).1) ∧ (frCells fs)[j * 2 + 1]? = some (.int .i64 (frAt fs j).2) := by
  induction fs generalizing j with
  | nil => simp at hj
  | cons f fs ih =>
    have e : frCells (f :: fs) = .int .i64 f.1 :: .int .i64 f.2 :: frCells fs := by simp [frCells]
    cases j with
    | zero => rw [e]; exact ⟨rfl, rfl⟩
    | succ j =>
      have := ih j (by simpa using hj)
      have e1 : (j + 1) * 2 = j * 2 + 1 + 1 := by omega
      rw [e, e1]
      simpa [frAt] using this
set_option maxRecDepth 100000 in
set_option maxHeartbeats 2000000 in
theorem boardFar_any (b : Nat) (rs : List RingT) (p : P2) (ad : Addr) (w : World) (h0 : Sent ad w) (hR : RingN w.heap.size w (some ⟨b, 0, none⟩) rs) (hes : (edgR rs).length ≤ 1000) (he1 : 2 ≤ (edgR rs).length) (hok : ∀ s ∈ edgR rs, OkF (farS p s)) :
    Calls Tryz.prog 64 #[.pointer (some ⟨b, 0, none⟩), .agg #[.int .i64 p.1, .int .i64 p.2]] w fun e W' => e = .returned (.agg #[.int .i64 (leastL ((edgR rs).map (farS p))).1, .int .i64 (leastL ((edgR rs).map (farS p))).2]) ∧ Below w.heap.size w W' := by
  obtain ⟨W, hW, BW, T, RB⟩ := boxes2 w (.cells #[.int .i64 p.1, .int .i64 p.2] 35) (.cells #[.int .i64 0, .int .i64 0] 47)
  obtain ⟨M, hM⟩ : ∃ M, (edgR rs).length = M := ⟨_, rfl⟩
  have hcall := callsIn_wide.1 (fars_in 12 (Nat.le_refl _) b rs p ad W (h0.below BW) (by have := hR.keep BW; exact RingL.ringN (Nat.le_refl _) (RingL.grow BW.size this.ringL)) hes)
  obtain ⟨fs, hfs⟩ : ∃ fs, (edgR rs).map (farS p) = fs := ⟨_, rfl⟩
  have hfl : fs.length = M := by rw [← hfs, List.length_map, hM]
  have hfo : ∀ f ∈ fs, OkF f := by intro f hf; rw [← hfs] at hf; obtain ⟨s, hs, rfl⟩ := List.mem_map.1 hf; exact hok s hs
  rw [hfs, hM] at hcall
  rw [hM] at hes he1
  rw [hfs]
  obtain ⟨r, hr⟩ : ∃ r, leastL fs = r := ⟨_, rfl⟩
  rw [hr]
  have Hr : Hid (leastL fs = r) := hr
  clear hfs hok hr
  obtain ⟨t0, t1⟩ := blk_2 T
  go_enter Tryz.func64, Tryz.ntmps64
  go_upto_region 1 with fail
  rw [← hW]
  clear hW
  go_wp2_with fail
  refine hcall.mono ?_
  rintro e w1 ⟨v, rfl, ho, J⟩
  have ho' := ho
  rcases ho.2 with ⟨_, hz⟩ | ⟨g, c, cur, rfl, hgb, hg, hMc, hcm, _⟩
  · omega
  have zg := (Array.getElem?_eq_some_iff.1 hg).1
  have hc := ho'.cells (g := g) rfl
  have add : ∀ k : Nat, (⟨g, 0, none⟩ : Addr).add k = ⟨g, k, none⟩ := fun k => by unfold Addr.add; split <;> simp_all
  have hcell : ∀ j, j < M → w1.cell? ⟨g, j * 2, none⟩ = some (.int .i64 (frAt fs j).1) ∧ w1.cell? ⟨g, j * 2 + 1, none⟩ = some (.int .i64 (frAt fs j).2) := fun j hj => by
    obtain ⟨a0, a1⟩ := frCells_at fs j (by omega)
    have d0 := hc _ _ a0
    have d1 := hc _ _ a1
    rw [add] at d0 d1
    exact ⟨d0, d1⟩
  obtain ⟨f, fs', rfl⟩ : ∃ f fs', fs = f :: fs' := by
    cases fs with
    | nil => simp at hfl; omega
    | cons f fs' => exact ⟨f, fs', rfl⟩
  obtain ⟨d0, d1⟩ := hcell 0 (by omega)
  simp only [Nat.zero_mul, Nat.zero_add, frAt, List.getElem?_cons_zero, Option.getD_some] at d0 d1
  have i1 : (0 : Int) < (M : Int) := by omega
  have i4 : 0 < M := by omega
  have hgne : g ≠ w.heap.size + 1 := by have := blk_lt RB; omega
  have i2 : (1 : Int) ≤ (M : Int) := by omega
  have i3 : (M : Int) ≤ (c : Int) := by omega
  have zW := BW.size
  have RB1 := keep J RB
  have zR := blk_lt RB
  have hl' : Hid (fs'.length = M - 1) := by change _ = _; simp at hfl; omega
  have hcl : ∀ j, j < M - 1 → w1.cell? ⟨g, 2 + j * 2, none⟩ = some (.int .i64 (frAt fs' j).1) ∧ w1.cell? ⟨g, 2 + j * 2 + 1, none⟩ = some (.int .i64 (frAt fs' j).2) := fun j hj => by
    have := hcell (j + 1) (by omega)
    rw [show (j + 1) * 2 = 2 + j * 2 by omega] at this
    simpa [frAt] using this
  have hs1 := (h0.below BW).below J
  have B2 : Below w1.heap.size w1 w1.drew := bw_drew (bw_refl _)
  have hL := fun cap => leastRow_ok f fs' g 2 (M - 1) cap ad w1.drew (hs1.below B2) (hfo f (by simp)) (fun x hx => hfo x (by simp [hx])) hl' (by omega) zg hcl
  have e1 : ((M : Int) - 1).toNat = M - 1 := by omega
  have c1' : (c = 1) = False := by simp; omega
  have RBd := RB1
  obtain ⟨q0, q1, qf0, qf1⟩ := blkF RB1
  have hr : fs'.foldl mn f = r := Hr.out
  rw [hr] at hL
  clear hcell hc ho ho' hr
  go_wp2_with fail
  go_region_held3 (fun w' => w'.cell? ⟨g, 0, none⟩ = some (.int .i64 f.1) ∧ w'.cell? ⟨g, 1, none⟩ = some (.int .i64 f.2))
    (first | go_keep | exact ⟨(J2.cell (p := ⟨g, 0, none⟩) zg).trans d0, (J2.cell (p := ⟨g, 1, none⟩) zg).trans d1⟩ | exact ⟨cellS2 ((J2.cell (p := ⟨g, 0, none⟩) zg).trans d0) hgne, cellS2 ((J2.cell (p := ⟨g, 1, none⟩) zg).trans d1) hgne⟩)
    ((go_at_call 70; refine (hL _).mono ?_; rintro e w2 ⟨rfl, J2⟩; have RB2 : w2.heap[w.heap.size + 1]? = some (.cells #[.int .i64 0, .int .i64 0] 47 (0, 0)) := keep J2 RBd; obtain ⟨x0, x1, xf0, xf1⟩ := blkF RB2))
  have RB3 := setF2 RB2 (u0 := .int .i64 r.1) (u1 := .int .i64 r.2)
  obtain ⟨v0, v1⟩ := blk_2 RB3
  go_wp2_with fail
  exact bodyPost_ret (v := .agg #[.int .i64 r.1, .int .i64 r.2]) (by simp [results, Tryz.results64, go_sem, v0, v1]) rfl ⟨rfl, bw_set (bw_set (bw_trans (bw_trans (bw_trans BW J) B2) J2) (p := ⟨w.heap.size + 1, 0, none⟩) (by dsimp only; omega) _) (p := ⟨w.heap.size + 1, 1, none⟩) (by dsimp only; omega) _⟩
end Go.Proofs.YtmdjhoknlplecaaGreatDoor
namespace Go.Proofs.YtmdjhoknlplecaaGreatDoor
open Go.RowKit Go.Sort

theorem blkF3 {w : World} {b : Nat} {x y z : Value} {t : TypeId} (h : w.heap[b]? = some (.cells #[x, y, z] t (0, 0))) :
    w.cell? ⟨b, 0, none⟩ = some x ∧ w.cell? ⟨b, 1, none⟩ = some y ∧ w.cell? ⟨b, 2, none⟩ = some z ∧ w.frozen? ⟨b, 0, none⟩ = false ∧ w.frozen? ⟨b, 1, none⟩ = false ∧ w.frozen? ⟨b, 2, none⟩ = false := by
  refine ⟨?_, ?_, ?_, ?_, ?_, ?_⟩ <;> simp [World.cell?, World.frozen?, h]
theorem reg_3 {w : World} {b : Nat} {x0 x1 x2 : Value} {t : TypeId} (h : w.heap[b]? = some (.cells #[x0, x1, x2] t (0, 0))) :
    (∀ d os, (grow (redrawn w d) os).cell? ⟨b, 0, none⟩ = some x0) ∧ (∀ d os, (grow (redrawn w d) os).cell? ⟨b, 1, none⟩ = some x1) ∧ (∀ d os, (grow (redrawn w d) os).cell? ⟨b, 2, none⟩ = some x2) := by
  obtain ⟨a0, a1, a2⟩ := blk_3 h
  exact ⟨cell_regrown a0, cell_regrown a1, cell_regrown a2⟩
theorem setF3 {w : World} {b : Nat} {x0 x1 x2 u0 u1 u2 : Value} {t : TypeId} (h : w.heap[b]? = some (.cells #[x0, x1, x2] t (0, 0))) : (((w.setCell ⟨b, 0, none⟩ u0).setCell ⟨b, 1, none⟩ u1).setCell ⟨b, 2, none⟩ u2).heap[b]? = some (.cells #[u0, u1, u2] t (0, 0)) := by
  simp [World.setCell, Array.getElem?_modify, h]
theorem bw_set3 {n : Nat} {W w : World} (h : Below n W w) {b : Nat} (hb : n ≤ b) (u0 u1 u2 : Value) : Below n W (((w.setCell ⟨b, 0, none⟩ u0).setCell ⟨b, 1, none⟩ u1).setCell ⟨b, 2, none⟩ u2) :=
  ((h.setCell (p := ⟨b, 0, none⟩) hb u0).setCell (p := ⟨b, 1, none⟩) hb u1).setCell (p := ⟨b, 2, none⟩) hb u2
theorem setRow {W : World} {g : Nat} {cur : Array Value} {e : TypeId} (h : W.heap[g]? = some (.cells cur e (0, 0))) (i : Nat) (v : Value) : (W.setCell ⟨g, i, none⟩ v).heap[g]? = some (.cells (cur.setIfInBounds i v) e (0, 0)) := by
  simp [World.setCell, Array.getElem?_modify, h]
theorem ringL_set {n₀ B i : Nat} {W : World} {cs : Array Value} {t : TypeId} (hT : W.heap[B]? = some (.cells cs t (0, 0))) (hsz : cs.size = 3) (hB : n₀ ≤ B) (v : Value) : ∀ {p : Option Addr} {xs : List RingT}, RingL n₀ W p xs → RingL n₀ (W.setCell ⟨B, i, none⟩ v) p xs
  | _, [], hl => hl
  | _, _ :: _, ⟨b, q, t', hp, hL, hl, hP, hr⟩ => by
    refine ⟨b, q, t', hp, hL.other' (fun e => ?_) v, hl, ?_, ringL_set hT hsz hB v hr⟩
    · subst e
      have h2 : W.heap[b]? = _ := hL
      rw [hT] at h2; cases h2; simp at hsz
    · refine ⟨hP.1, hP.2.imp id ?_⟩
      rintro ⟨g, off, e, hg, hc⟩
      refine ⟨g, off, e, hg, fun j hj => ?_⟩
      have k : ∀ o, (W.setCell ⟨B, i, none⟩ v).cell? ⟨g, o, none⟩ = W.cell? ⟨g, o, none⟩ := fun o => World.cell?_of_block (Below.heap_setCell W ⟨B, i, none⟩ v g (fun e => by have e' : g = B := e; omega))
      rw [k, k]; exact hc j hj
/-- What toolOn hands back. -/
def ToolAns (n₀ : Nat) (ok : Bool) (r : Int) (a : Option Addr) (la ca : Nat) (o : List P2) (hs : List (List P2)) (e : Ending) (W' : World) : Prop :=
  ∃ (q : Option Addr) (n d : Int), e = .returned (.tuple #[.agg #[.pointer q, .int .i64 n, .int .i64 d], .bool ok]) ∧
    (ok = true → n = r ∧ d = 1 ∧ ∃ b xs, q = some ⟨b, 0, none⟩ ∧ RingL n₀ W' (some ⟨b, 0, none⟩) (⟨a, la, ca, o⟩ :: xs) ∧ xs.map RingT.pts = hs)
theorem toolOk_any (r : Int) (w : World) : Calls Tryz.prog 78 #[.int .i64 r] w fun e W' => e = .returned (.bool (rV r)) ∧ Below w.heap.size w W' := by
  have hw := bw_refl w
  by_cases c1 : r < 1
  · have hv : rV r = false := by rw [rV, decide_eq_false_iff_not]; omega
    rw [hv]
    go_enter Tryz.func78, Tryz.ntmps78
    go_wp2_with fail
    go_ret
    exact ⟨rfl, hw⟩
  · by_cases c2 : 9 < r
    · have hv : rV r = false := by rw [rV, decide_eq_false_iff_not]; omega
      rw [hv]
      go_enter Tryz.func78, Tryz.ntmps78
      go_wp2_with fail
      go_ret
      exact ⟨by first | rfl | (simp; omega), hw⟩
    · have hv : rV r = true := by rw [rV_iff]; omega
      rw [hv]
      go_enter Tryz.func78, Tryz.ntmps78
      go_wp2_with fail
      go_ret
      exact ⟨by first | rfl | (simp; omega), hw⟩
set_option maxRecDepth 100000 in
set_option maxHeartbeats 1000000 in
/-- A tool on a plate. -/
theorem toolOn_any (a ah : Option Addr) (la ca nh ch : Nat) (o : List P2) (hs : List (List P2)) (r : Int) (ad : Addr) (w : World) (h0 : Sent ad w) (h : Plt w a la ah nh o hs) :
    Calls Tryz.prog 40 #[.agg #[.slice a la ca, .slice ah nh ch], .int .i64 r] w fun e W' => ToolAns w.heap.size (rV r && plV o hs) r a la ca o hs e W' ∧ Below w.heap.size w W' := by
  obtain ⟨W, hW, BW, TP, RB⟩ := boxes2 w (.cells #[.slice a la ca, .slice ah nh ch] 33) (.cells #[.pointer none, .int .i64 0, .int .i64 0] 74)
  cases hr : rV r
  · have hK := fun V => toolOk_any r V
    rw [hr] at hK
    clear hr
    obtain ⟨t0, t1⟩ := blk_2 TP
    go_enter Tryz.func40, Tryz.ntmps40
    go_upto_region 1 with fail
    rw [← hW]
    clear hW
    go_wp2_with fail
    refine (hK _).mono ?_
    rintro e w1 ⟨rfl, J⟩
    have zB := BW.size
    have RB1 := keep J RB
    obtain ⟨q0, q1, q2, f0, f1, f2⟩ := blkF3 RB1
    have RB2 := setF3 RB1 (u0 := .pointer none) (u1 := .int .i64 0) (u2 := .int .i64 0)
    obtain ⟨v0, v1, v2, _, _, _⟩ := blkF3 RB2
    go_wp2_with fail
    exact bodyPost_ret (v := .tuple #[.agg #[.pointer none, .int .i64 0, .int .i64 0], .bool false]) (by simp [results, Tryz.results40, go_sem, v0, v1, v2]) rfl ⟨⟨none, 0, 0, rfl, fun h => by cases h⟩, bw_set3 (bw_trans BW J) (by omega) _ _ _⟩
  · have hn := (rV_iff r).1 hr
    obtain ⟨c1, c2⟩ := hn
    have hK := fun V => toolOk_any r V
    rw [hr] at hK
    cases hv : plV o hs
    · obtain ⟨t0, t1⟩ := blk_2 TP
      go_enter Tryz.func40, Tryz.ntmps40
      go_upto_region 1 with fail
      rw [← hW]
      clear hW
      go_wp2_with fail
      refine (hK _).mono ?_
      rintro e w0 ⟨rfl, J0⟩
      replace TP := keep J0 TP
      replace RB := keep J0 RB
      replace BW := bw_trans BW J0
      clear hK J0 t0 t1
      obtain ⟨t0, t1⟩ := blk_2 TP
      have zP := blk_lt TP
      have zR := blk_lt RB
      have zB := BW.size
      go_wp2_with fail
      refine (board_any0 a ah la ca nh ch o hs _ _ zB (h.base BW)).mono ?_
      rw [hv]
      rintro e w1 ⟨q, rfl, J, _⟩
      have RB1 := keep J RB
      obtain ⟨q0, q1, q2, f0, f1, f2⟩ := blkF3 RB1
      have RB2 := setF3 RB1 (u0 := .pointer none) (u1 := .int .i64 0) (u2 := .int .i64 0)
      obtain ⟨v0, v1, v2, _, _, _⟩ := blkF3 RB2
      go_wp2_with fail
      exact bodyPost_ret (v := .tuple #[.agg #[.pointer none, .int .i64 0, .int .i64 0], .bool false]) (by simp [results, Tryz.results40, go_sem, v0, v1, v2]) rfl ⟨⟨none, 0, 0, rfl, fun h => by cases h⟩, bw_set3 (bw_trans BW J) (by omega) _ _ _⟩
    · obtain ⟨t0, t1⟩ := blk_2 TP
      go_enter Tryz.func40, Tryz.ntmps40
      go_upto_region 1 with fail
      rw [← hW]
      clear hW
      go_wp2_with fail
      refine (hK _).mono ?_
      rintro e w0 ⟨rfl, J0⟩
      replace TP := keep J0 TP
      replace RB := keep J0 RB
      replace BW := bw_trans BW J0
      clear hK J0 t0 t1
      obtain ⟨t0, t1⟩ := blk_2 TP
      have zP := blk_lt TP
      have zR := blk_lt RB
      have zB := BW.size
      go_wp2_with fail
      refine (board_any0 a ah la ca nh ch o hs _ _ zB (h.base BW)).mono ?_
      rintro e w1 ⟨q, rfl, J, hR⟩
      obtain ⟨b, xs, rfl, hR, hx⟩ := hR hv
      rw [hv]
      have hG := grid_one r (by omega) (by omega) ad w1 (h0.below (bw_trans BW J))
      go_wp2_with fail
      have zJ1 := J.size
      refine hG.mono ?_
      rintro e w2 ⟨rfl, J2⟩
      have RB1 := keep (bw_trans J J2) RB
      obtain ⟨q0, q1, q2, f0, f1, f2⟩ := blkF3 RB1
      have RB2 := setF3 RB1 (u0 := .pointer (some ⟨b, 0, none⟩)) (u1 := .int .i64 r) (u2 := .int .i64 1)
      obtain ⟨v0, v1, v2, _, _, _⟩ := blkF3 RB2
      go_wp2_with fail
      have hRx : RingL w.heap.size _ (some ⟨b, 0, none⟩) (⟨a, la, ca, o⟩ :: xs) := ringL_set (i := 2) (setRow (setRow RB1 0 (.pointer (some ⟨b, 0, none⟩))) 1 (.int .i64 r)) (by simp) (by omega) (.int .i64 1) (ringL_set (i := 1) (setRow RB1 0 (.pointer (some ⟨b, 0, none⟩))) (by simp) (by omega) (.int .i64 r) (ringL_set (i := 0) RB1 rfl (by omega) (.pointer (some ⟨b, 0, none⟩)) (hR.below J2 (by omega))))
      refine bodyPost_ret (v := .tuple #[.agg #[.pointer (some ⟨b, 0, none⟩), .int .i64 r, .int .i64 1], .bool true]) (by simp [results, Tryz.results40, go_sem, v0, v1, v2]) rfl ⟨⟨_, r, 1, rfl, fun _ => ⟨rfl, rfl, b, xs, rfl, hRx, hx⟩⟩, bw_set3 (bw_trans (bw_trans BW J) J2) (by omega) _ _ _⟩
theorem boardHas_any (b : Nat) (o : RingT) (hs : List RingT) (p : P2) (w : World) (hR : RingL w.heap.size w (some ⟨b, 0, none⟩) (o :: hs)) (hok : ((o :: hs).all fun x => okV x.pts) = true) (hp : ptB p.1 p.2 = true) :
    Calls Tryz.prog 80 #[.pointer (some ⟨b, 0, none⟩), .agg #[.int .i64 p.1, .int .i64 p.2]] w fun e W' => e = .returned (.bool (decide (plI o.pts (hs.map RingT.pts) p = 1))) ∧ Below w.heap.size w W' := by
  obtain ⟨W, hW, BW, T⟩ : ∃ W, W = w.alloc (.cells #[.int .i64 p.1, .int .i64 p.2] 35) ∧ Below w.heap.size w W ∧ W.heap[w.heap.size]? = some (.cells #[.int .i64 p.1, .int .i64 p.2] 35) := ⟨_, rfl, (by repeat (first | exact bw_refl _ | assumption | apply bw_drewN | apply bw_drew | apply bw_alloc | refine bw_set ?_ (by simp) _)), heap_new _ _⟩
  have hcall := boardIn_any b o hs p W ((hR.below BW (Nat.le_refl _)).grow BW.size) hok hp
  obtain ⟨t0, t1⟩ := blk_2 T
  generalize plI o.pts (hs.map RingT.pts) p = u at *
  go_enter Tryz.func80, Tryz.ntmps80
  go_upto_region 1 with fail
  rw [← hW]
  clear hW
  go_wp2_with fail
  refine hcall.mono ?_
  rintro e w1 ⟨rfl, J⟩
  go_wp2_with fail
  go_ret
  exact ⟨by first | rfl | simp, bw_trans BW J⟩
theorem spares_any (q : Option Addr) (n d : Int) (f : Int × Int) (ad : Addr) (w : World) (h0 : Sent ad w) :
    Calls Tryz.prog 81 #[.agg #[.pointer q, .int .i64 n, .int .i64 d], .agg #[.int .i64 f.1, .int .i64 f.2]] w fun e W' => e = .returned (.bool (decide (cmpV n d f.1 f.2 ≤ 0))) ∧ Below w.heap.size w W' := by
  obtain ⟨W, hW, BW, T, F⟩ := boxes2 w (.cells #[.pointer q, .int .i64 n, .int .i64 d] 74) (.cells #[.int .i64 f.1, .int .i64 f.2] 47)
  have hcall := fracCmp_any n d f.1 f.2 ad W (h0.below BW)
  obtain ⟨t0, t1, t2⟩ := blk_3 T
  obtain ⟨f0, f1⟩ := blk_2 F
  generalize cmpV n d f.1 f.2 = u at *
  go_enter Tryz.func81, Tryz.ntmps81
  go_upto_region 1 with fail
  rw [← hW]
  clear hW
  go_wp2_with fail
  refine hcall.mono ?_
  rintro e w1 ⟨rfl, J⟩
  go_wp2_with fail
  go_ret
  exact ⟨by first | rfl | simp, bw_trans BW J⟩
set_option maxRecDepth 100000 in
set_option maxHeartbeats 1000000 in
/-- Where it is known to be a tool on a plate, it fits just if it does. -/
theorem fits_any (b : Nat) (o : RingT) (xs : List RingT) (hs : List (List P2)) (r : Int) (p : P2) (ad : Addr) (w : World) (h0 : Sent ad w) (hR : RingL w.heap.size w (some ⟨b, 0, none⟩) (o :: xs)) (hx : xs.map RingT.pts = hs) (hv : plV o.pts hs = true) (hr : rV r = true) (hp : ptB p.1 p.2 = true) :
    Calls Tryz.prog 42 #[.agg #[.pointer (some ⟨b, 0, none⟩), .int .i64 r, .int .i64 1], .agg #[.int .i64 p.1, .int .i64 p.2]] w fun e W' => e = .returned (.bool (fitI o.pts hs r p)) ∧ Below w.heap.size w W' := by
  obtain ⟨W, hW, BW, T, Z⟩ := boxes2 w (.cells #[.pointer (some ⟨b, 0, none⟩), .int .i64 r, .int .i64 1] 74) (.cells #[.int .i64 p.1, .int .i64 p.2] 35)
  have L := (plV_iff _ _).1 hv
  have hall : ((o :: xs).all fun x => okV x.pts) = true := by
    rw [List.all_eq_true]
    intro x hx'
    rcases List.mem_cons.1 hx' with e | e
    · subst e; exact L.out
    · exact L.ok _ (by rw [← hx]; exact List.mem_map.2 ⟨x, e, rfl⟩)
  have n3 := plE_ne hv
  have n24 := plE_len o.pts hs
  have hfo : ∀ s ∈ plE o.pts hs, OkF (farS p s) := fun s hs => farS_ok (plE_ok hv hs) hp
  have hE : edgR (o :: xs) = plE o.pts hs := by rw [edgR_eq _ _ hs hx, plE_eq hv]
  have hRW := (hR.below BW (Nat.le_refl _)).grow BW.size
  have HH : Hid (∀ w', Below W.heap.size W w' → Calls Tryz.prog 80 #[.pointer (some ⟨b, 0, none⟩), .agg #[.int .i64 p.1, .int .i64 p.2]] w' fun e W' => e = .returned (.bool (decide (plI o.pts hs p = 1))) ∧ Below w'.heap.size w' W') := fun w' J => by
    have := boardHas_any b o xs p w' ((hRW.below J (Nat.le_refl _)).grow J.size) hall hp
    rwa [hx] at this
  have HF : Hid (∀ w', Below W.heap.size W w' → Calls Tryz.prog 64 #[.pointer (some ⟨b, 0, none⟩), .agg #[.int .i64 p.1, .int .i64 p.2]] w' fun e W' => e = .returned (.agg #[.int .i64 (plFI o.pts hs p).1, .int .i64 (plFI o.pts hs p).2]) ∧ Below w'.heap.size w' W') := fun w' J => by
    have := boardFar_any b (o :: xs) p ad w' (h0.below (bw_trans BW J)) (RingL.ringN (Nat.le_refl _) ((hRW.below J (Nat.le_refl _)).grow J.size)) (by rw [hE]; omega) (by rw [hE]; omega) (by rw [hE]; exact hfo)
    rwa [hE] at this
  have HS : Hid (∀ w', Below W.heap.size W w' → Calls Tryz.prog 81 #[.agg #[.pointer (some ⟨b, 0, none⟩), .int .i64 r, .int .i64 1], .agg #[.int .i64 (plFI o.pts hs p).1, .int .i64 (plFI o.pts hs p).2]] w' fun e W' => e = .returned (.bool (spB r (plFI o.pts hs p))) ∧ Below w'.heap.size w' W') := fun w' J => by
    have := spares_any (some ⟨b, 0, none⟩) r 1 (plFI o.pts hs p) ad w' (h0.below (bw_trans BW J))
    rwa [sp_cmp hr (plFI_ok hv hp)] at this
  have HV : Hid (fitI o.pts hs r p = (decide (plI o.pts hs p = 1) && spB r (plFI o.pts hs p))) := rfl
  rw [HV.out]
  clear hfo hE hRW hall hR hv hx n3 n24 L HV
  generalize plFI o.pts hs p = f at *
  generalize decide (plI o.pts hs p = 1) = bi at *
  generalize spB r f = bs at *
  obtain ⟨t0, t1, t2⟩ := reg_3 T
  obtain ⟨z0, z1⟩ := reg_2 Z
  have HH2 : Hid (∀ d os, Calls Tryz.prog 80 #[.pointer (some ⟨b, 0, none⟩), .agg #[.int .i64 p.1, .int .i64 p.2]] (grow (redrawn W d) os) fun e W' => e = .returned (.bool bi) ∧ Below (grow (redrawn W d) os).heap.size (grow (redrawn W d) os) W') := fun d os => HH.out _ (below_regrown W d os)
  have HF2 : Hid (∀ d os, Calls Tryz.prog 64 #[.pointer (some ⟨b, 0, none⟩), .agg #[.int .i64 p.1, .int .i64 p.2]] (grow (redrawn W d) os) fun e W' => e = .returned (.agg #[.int .i64 f.1, .int .i64 f.2]) ∧ Below (grow (redrawn W d) os).heap.size (grow (redrawn W d) os) W') := fun d os => HF.out _ (below_regrown W d os)
  have HS2 : Hid (∀ d os, Calls Tryz.prog 81 #[.agg #[.pointer (some ⟨b, 0, none⟩), .int .i64 r, .int .i64 1], .agg #[.int .i64 f.1, .int .i64 f.2]] (grow (redrawn W d) os) fun e W' => e = .returned (.bool bs) ∧ Below (grow (redrawn W d) os).heap.size (grow (redrawn W d) os) W') := fun d os => HS.out _ (below_regrown W d os)
  clear HH HF HS
  go_enter Tryz.func42, Tryz.ntmps42
  go_upto_region 1 with fail
  rw [← hW]
  clear hW
  cases bi
  · refine wp_region_quiet_below (by kernel_rfl) (by kernel_rfl) ?_
    repeat (first | go_big_quiet_step (first | (go_at_call 80; with_reducible exact Calls.regrown_of (HH2.out _ _))))
    refine wpQuiet_nil ?_
    intro _ hw'
    obtain ⟨⟨dq, osq⟩, hw''⟩ := hw'
    subst hw''
    have J := below_regrown W dq osq
    generalize grow (redrawn W dq) osq = v at J ⊢
    go_wp2_with fail
    go_ret
    exact ⟨by first | rfl | simp, bw_trans BW J⟩
  · refine wp_region_quiet_below (by kernel_rfl) (by kernel_rfl) ?_
    repeat (first | go_big_quiet_step (first | (go_at_call 80; with_reducible exact Calls.regrown_of (HH2.out _ _)) | (go_at_call 64; with_reducible exact Calls.regrown_of (HF2.out _ _)) | (go_at_call 81; with_reducible exact Calls.regrown_of (HS2.out _ _))))
    refine wpQuiet_nil ?_
    intro _ hw'
    obtain ⟨⟨dq, osq⟩, hw''⟩ := hw'
    subst hw''
    have J := below_regrown W dq osq
    generalize grow (redrawn W dq) osq = v at J ⊢
    go_wp2_with fail
    go_ret
    exact ⟨by first | rfl | simp, bw_trans BW J⟩
set_option maxRecDepth 100000 in
set_option maxHeartbeats 2000000 in
theorem toolFits_any (a ah : Option Addr) (la ca nh ch : Nat) (o : List P2) (hs : List (List P2)) (r : Int) (p : P2) (ad : Addr) (w : World) (h0 : Sent ad w) (h : Plt w a la ah nh o hs) :
    Calls Tryz.prog 15 #[.agg #[.slice a la ca, .slice ah nh ch], .int .i64 r, .agg #[.int .i64 p.1, .int .i64 p.2]] w fun e W' => e = .returned (.bool (fitV o hs r p)) ∧ Below w.heap.size w W' := by
  obtain ⟨W, hW, BW, TP, T⟩ := boxes2 w (.cells #[.slice a la ca, .slice ah nh ch] 33) (.cells #[.int .i64 p.1, .int .i64 p.2] 35)
  have hT := toolOn_any a ah la ca nh ch o hs r ad W (h0.below BW) (h.below BW)
  have zB := BW.size
  have hzT := blk_lt T
  obtain ⟨t0, t1⟩ := blk_2 TP
  cases hrv : rV r && plV o hs
  · have e1 : Hid (fitV o hs r p = false) := by change _ = _; unfold fitV; rw [hrv]; rfl
    rw [hrv] at hT
    go_enter Tryz.func15, Tryz.ntmps15
    go_upto_region 1 with fail
    rw [← hW]
    clear hW
    go_wp2_with fail
    refine hT.mono ?_
    rintro e w1 ⟨⟨q, n, d, rfl, -⟩, J⟩
    obtain ⟨W1, hW1, B1, F⟩ : ∃ W1, W1 = w1.alloc (.cells #[.pointer q, .int .i64 n, .int .i64 d] 74) ∧ Below w1.heap.size w1 W1 ∧ W1.heap[w1.heap.size]? = some (.cells #[.pointer q, .int .i64 n, .int .i64 d] 74 (0, 0)) := ⟨_, rfl, (by repeat (first | exact bw_refl _ | assumption | apply bw_drewN | apply bw_drew | apply bw_alloc | refine bw_set ?_ (by simp) _)), heap_new _ _⟩
    go_upto_region 2 with fail
    rw [← hW1]
    clear hW1
    go_wp2_with fail
    go_ret
    exact ⟨by rw [e1.out]; rfl, bw_trans (bw_trans BW J) B1⟩
  rw [hrv] at hT
  rw [Bool.and_eq_true] at hrv
  obtain ⟨hr, hv⟩ := hrv
  cases hp : ptB p.1 p.2
  · have e1 : Hid (fitV o hs r p = false) := by change _ = _; unfold fitV; rw [hr, hv, hp]; rfl
    go_enter Tryz.func15, Tryz.ntmps15
    go_upto_region 1 with fail
    rw [← hW]
    clear hW
    go_wp2_with fail
    refine hT.mono ?_
    rintro e w1 ⟨⟨q, n, d, rfl, -⟩, J⟩
    obtain ⟨W1, hW1, B1, F⟩ : ∃ W1, W1 = w1.alloc (.cells #[.pointer q, .int .i64 n, .int .i64 d] 74) ∧ Below w1.heap.size w1 W1 ∧ W1.heap[w1.heap.size]? = some (.cells #[.pointer q, .int .i64 n, .int .i64 d] 74 (0, 0)) := ⟨_, rfl, (by repeat (first | exact bw_refl _ | assumption | apply bw_drewN | apply bw_drew | apply bw_alloc | refine bw_set ?_ (by simp) _)), heap_new _ _⟩
    have K := bw_trans J B1
    replace T := keep K T
    clear t0 t1
    obtain ⟨t0, t1⟩ := blk_2 T
    go_upto_region 2 with fail
    rw [← hW1]
    clear hW1
    go_wp2_with fail
    refine (pt_raw p _).mono ?_
    rw [hp]
    rintro e w2 ⟨rfl, J2⟩
    go_wp2_with fail
    go_ret
    exact ⟨by rw [e1.out]; rfl, bw_trans (bw_trans BW K) J2⟩
  · have e1 : Hid (fitV o hs r p = fitI o hs r p) := fitV_ok hr hv hp
    go_enter Tryz.func15, Tryz.ntmps15
    go_upto_region 1 with fail
    rw [← hW]
    clear hW
    go_wp2_with fail
    refine hT.mono ?_
    rintro e w1 ⟨⟨q, n, d, rfl, hR0⟩, J⟩
    obtain ⟨rfl, rfl, b, xs, rfl, hR, hx⟩ := hR0 rfl
    clear hR0
    obtain ⟨W1, hW1, B1, F⟩ : ∃ W1, W1 = w1.alloc (.cells #[.pointer (some ⟨b, 0, none⟩), .int .i64 n, .int .i64 1] 74) ∧ Below w1.heap.size w1 W1 ∧ W1.heap[w1.heap.size]? = some (.cells #[.pointer (some ⟨b, 0, none⟩), .int .i64 n, .int .i64 1] 74 (0, 0)) := ⟨_, rfl, (by repeat (first | exact bw_refl _ | assumption | apply bw_drewN | apply bw_drew | apply bw_alloc | refine bw_set ?_ (by simp) _)), heap_new _ _⟩
    have K := bw_trans J B1
    have zJ := J.size
    have zB1 := B1.size
    replace T := keep K T
    clear t0 t1
    obtain ⟨t0, t1⟩ := blk_2 T
    go_upto_region 2 with fail
    rw [← hW1]
    clear hW1
    go_wp2_with fail
    refine (pt_raw p _).mono ?_
    rw [hp]
    rintro e w2 ⟨rfl, J2⟩
    have zJ2 := J2.size
    have K2 := bw_trans (bw_trans BW K) J2
    replace T := keep J2 T
    replace F := keep J2 F
    clear t0 t1
    obtain ⟨t0, t1⟩ := blk_2 T
    obtain ⟨f0, f1, f2⟩ := blk_3 F
    have hF := fits_any b ⟨a, la, ca, o⟩ xs hs n p ad w2 (h0.below K2) (((hR.below B1 (by omega)).below J2 (by omega)).grow (by omega)) hx hv hr hp
    go_wp2_with fail
    refine hF.mono ?_
    rintro e w3 ⟨rfl, J3⟩
    go_wp2_with fail
    go_ret
    exact ⟨by rw [e1.out]; rfl, bw_trans K2 J3⟩
end Go.Proofs.YtmdjhoknlplecaaGreatDoor
namespace Go.Proofs.YtmdjhoknlplecaaGreatDoor
open Go.RowKit Go.Shelf Go.Sort
attribute [local go_sem] Oper.semAt_some

/-- The tool does not cut an edge from there to there. -/
def clB (n d : Int) (a b : P2) (s : P2 × P2) : Bool := decide (cmpV n d (apartV a.1 a.2 b.1 b.2 s.1.1 s.1.2 s.2.1 s.2.2).1 (apartV a.1 a.2 b.1 b.2 s.1.1 s.1.2 s.2.1 s.2.2).2 ≤ 0)
set_option maxRecDepth 100000 in
set_option maxHeartbeats 4000000 in
theorem clears_in (N : Nat) (hn : 12 ≤ N) (b : Nat) (rs : List RingT) (n d : Int) (p q : P2) (ad : Addr) (w : World) (h0 : Sent ad w) (hR : RingN w.heap.size w (some ⟨b, 0, none⟩) rs) :
    CallsIn Fence.wide N Tryz.prog 86 #[.agg #[.pointer (some ⟨b, 0, none⟩), .int .i64 n, .int .i64 d], .agg #[.int .i64 p.1, .int .i64 p.2], .agg #[.int .i64 q.1, .int .i64 q.2]] w fun e W' => e = .returned (.bool ((edgR rs).all (clB n d p q))) ∧ Below w.heap.size w W' := by
  have h1 : 1 ≤ N := by omega
  have hmx : Tryz.prog.follows .mixedOrders = true := by kernel_rfl
  refine callsIn_of_wp_marks Tryz.func86 rfl trivial ?_ rfl
  simp only [Tryz.ntmps86, List.size_toArray, List.length_cons, List.length_nil, Nat.reduceAdd, Nat.reduceSub, Array.replicate_succ, Array.replicate_zero, List.push_toArray, List.append_toArray, List.nil_append, List.cons_append]
  gi_wp2_with (refine ⟨trivial, ?_⟩; gi_at_call 66; refine (ringEdges_in (N - 1) _ _).mono ?_; rintro e w' ⟨rfl, rfl⟩)
  have Q0 := ((((((Lies.new' w (w.heap.size) (by simp) #[.pointer (some ⟨b, 0, none⟩), .int .i64 n, .int .i64 d] 74).alloc (.cells #[.int .i64 p.1, .int .i64 p.2] 35)).alloc (.cells #[.int .i64 q.1, .int .i64 q.2] 35)).alloc (.cells #[.bool false] 4)).alloc (.cells #[.int .i64 p.1, .int .i64 p.2, .int .i64 q.1, .int .i64 q.2] 62)).alloc (.cells #[.pointer (some ⟨b, 0, none⟩)] 110))
  have Q3 := (((Lies.new' (((w.alloc (.cells #[.pointer (some ⟨b, 0, none⟩), .int .i64 n, .int .i64 d] 74)).alloc (.cells #[.int .i64 p.1, .int .i64 p.2] 35)).alloc (.cells #[.int .i64 q.1, .int .i64 q.2] 35)) (w.heap.size + 1 + 1 + 1) (by simp) #[.bool false] 4).alloc (.cells #[.int .i64 p.1, .int .i64 p.2, .int .i64 q.1, .int .i64 q.2] 62)).alloc (.cells #[.pointer (some ⟨b, 0, none⟩)] 110))
  have Q4 := ((Lies.new' ((((w.alloc (.cells #[.pointer (some ⟨b, 0, none⟩), .int .i64 n, .int .i64 d] 74)).alloc (.cells #[.int .i64 p.1, .int .i64 p.2] 35)).alloc (.cells #[.int .i64 q.1, .int .i64 q.2] 35)).alloc (.cells #[.bool false] 4)) (w.heap.size + 1 + 1 + 1 + 1) (by simp) #[.int .i64 p.1, .int .i64 p.2, .int .i64 q.1, .int .i64 q.2] 62).alloc (.cells #[.pointer (some ⟨b, 0, none⟩)] 110))
  have Q5 := (Lies.new' (((((w.alloc (.cells #[.pointer (some ⟨b, 0, none⟩), .int .i64 n, .int .i64 d] 74)).alloc (.cells #[.int .i64 p.1, .int .i64 p.2] 35)).alloc (.cells #[.int .i64 q.1, .int .i64 q.2] 35)).alloc (.cells #[.bool false] 4)).alloc (.cells #[.int .i64 p.1, .int .i64 p.2, .int .i64 q.1, .int .i64 q.2] 62)) (w.heap.size + 1 + 1 + 1 + 1 + 1) (by simp) #[.pointer (some ⟨b, 0, none⟩)] 110)
  have hB0 : Below w.heap.size w ((((((w.alloc (.cells #[.pointer (some ⟨b, 0, none⟩), .int .i64 n, .int .i64 d] 74)).alloc (.cells #[.int .i64 p.1, .int .i64 p.2] 35)).alloc (.cells #[.int .i64 q.1, .int .i64 q.2] 35)).alloc (.cells #[.bool false] 4)).alloc (.cells #[.int .i64 p.1, .int .i64 p.2, .int .i64 q.1, .int .i64 q.2] 62)).alloc (.cells #[.pointer (some ⟨b, 0, none⟩)] 110)) := (by repeat (first | exact bw_refl _ | assumption | apply bw_drewN | apply bw_drew | apply bw_alloc | refine bw_set ?_ (by simp) _))
  have hsz : (((((((w.alloc (.cells #[.pointer (some ⟨b, 0, none⟩), .int .i64 n, .int .i64 d] 74)).alloc (.cells #[.int .i64 p.1, .int .i64 p.2] 35)).alloc (.cells #[.int .i64 q.1, .int .i64 q.2] 35)).alloc (.cells #[.bool false] 4)).alloc (.cells #[.int .i64 p.1, .int .i64 p.2, .int .i64 q.1, .int .i64 q.2] 62)).alloc (.cells #[.pointer (some ⟨b, 0, none⟩)] 110))).heap.size = w.heap.size + 6 := by simp
  obtain ⟨W0, hW0⟩ : ∃ W0, ((((((w.alloc (.cells #[.pointer (some ⟨b, 0, none⟩), .int .i64 n, .int .i64 d] 74)).alloc (.cells #[.int .i64 p.1, .int .i64 p.2] 35)).alloc (.cells #[.int .i64 q.1, .int .i64 q.2] 35)).alloc (.cells #[.bool false] 4)).alloc (.cells #[.int .i64 p.1, .int .i64 p.2, .int .i64 q.1, .int .i64 q.2] 62)).alloc (.cells #[.pointer (some ⟨b, 0, none⟩)] 110)) = W0 := ⟨_, rfl⟩
  rw [hW0] at Q0 Q3 Q4 Q5 hB0 hsz ⊢
  clear hW0
  have hseq := ringE_seqS (N - 1) (by omega) (w.heap.size + 1 + 1 + 1 + 1 + 1) w.heap.size (some ⟨b, 0, none⟩) rs W0 Q5.c1 (by omega) (hR.keep hB0)
  refine wpIn_rangeOS rfl h1 (gf := 102) (lb := #[.pointer (some ⟨w.heap.size + 1 + 1 + 1 + 1 + 1, 0, none⟩)]) rfl trivial (enters_of Tryz.func102 (by kernel_rfl) rfl)
    hseq KT_t (KT_b (by omega)) (Below.refl _ _) (fun _ => rfl)
    (fun pre W => ((∀ x ∈ pre, clB n d p q x = true) ∧ Lies w.heap.size #[.pointer (some ⟨b, 0, none⟩), .int .i64 n, .int .i64 d] 74 W ∧ Lies (w.heap.size + 1 + 1 + 1) #[.bool false] 4 W ∧ Lies (w.heap.size + 1 + 1 + 1 + 1) #[.int .i64 p.1, .int .i64 p.2, .int .i64 q.1, .int .i64 q.2] 62 W) ∧ Below w.heap.size w W)
    (fun c pre W => ((c = .ret ∧ ∃ x ∈ pre, clB n d p q x = false) ∧ Lies (w.heap.size + 1 + 1 + 1) #[.bool false] 4 W) ∧ Below w.heap.size w W)
    (OwnFrom.and (OwnFrom.and (ownFrom_pure _ _) (OwnFrom.and (lies_from _ _ _ _) (OwnFrom.and (lies_from _ _ _ _) (lies_from _ _ _ _)))) (ownFrom_below (Nat.le_refl _) (by omega)))
    (fun c => OwnFrom.and (OwnFrom.and (ownFrom_pure _ _) (lies_from _ _ _ _)) (ownFrom_below (Nat.le_refl _) (by omega)))
    ⟨⟨by simp, Q0, Q3, Q4⟩, hB0⟩
    (fun x a' W => ∃ Bx, w.heap.size + 1 + 1 + 1 + 1 < Bx ∧ Lies Bx #[.int .i64 x.1.1, .int .i64 x.1.2, .int .i64 x.2.1, .int .i64 x.2.2] 62 W ∧ a' = { tmps := #[.agg #[.pointer (some ⟨b, 0, none⟩), .int .i64 n, .int .i64 d], .agg #[.int .i64 p.1, .int .i64 p.2], .agg #[.int .i64 q.1, .int .i64 q.2], .pointer (some ⟨w.heap.size, 0, none⟩), .pointer (some ⟨w.heap.size + 1, 0, none⟩), .pointer (some ⟨w.heap.size + 1 + 1, 0, none⟩), .pointer (some ⟨w.heap.size + 1 + 1 + 1, 0, none⟩), .pointer (some ⟨w.heap.size + 1 + 1 + 1 + 1, 0, none⟩), .pointer (some ⟨Bx, 0, none⟩), .agg #[.int .i64 p.1, .int .i64 p.2], .agg #[.int .i64 q.1, .int .i64 q.2], .agg #[.int .i64 p.1, .int .i64 p.2, .int .i64 q.1, .int .i64 q.2], .pointer (some ⟨w.heap.size, 0, none⟩), .pointer (some ⟨b, 0, none⟩), .pointer (some ⟨b, 0, none⟩), .pointer (some ⟨b, 0, none⟩), .func (.func 102) #[] #[.pointer (some ⟨w.heap.size + 1 + 1 + 1 + 1 + 1, 0, none⟩)], .agg #[.int .i64 x.1.1, .int .i64 x.1.2, .int .i64 x.2.1, .int .i64 x.2.2], undef, undef, undef, undef, undef, undef], defers := [] })
    (fun x a' _ X Y row hs hg hr => by obtain ⟨Bx, e1, e2, e3⟩ := hs; exact ⟨Bx, e1, lies_own (β := Unit) Bx _ _ () X Y row e2 hg (fun r e => (hr r e).2), e3⟩)
    ?assign ?body ?done ?stop
  case assign =>
    rintro l pre x W K ⟨⟨hp, M0, M3, M4⟩, hB1⟩ hK
    unfold segE
    have hB3 : Below W.heap.size W (W.alloc (.cells #[.int .i64 x.1.1, .int .i64 x.1.2, .int .i64 x.2.1, .int .i64 x.2.2] 62)) := (by repeat (first | exact bw_refl _ | assumption | apply bw_drewN | apply bw_drew | apply bw_alloc | refine bw_set ?_ (by simp) _))
    gi_wp2
    exact hK _ _ ((KeepsOthers.alloc _ _).from _) (KT.of_below hB3 hB1.size) ⟨⟨hp, M0.alloc _, M3.alloc _, M4.alloc _⟩, hB1.alloc hB1.size _⟩ ⟨W.heap.size, M4.lt, Lies.new W _ _, rfl⟩
  case body =>
    rintro l pre x a' W hl2 ⟨⟨hp, M0, M3, M4⟩, hB1⟩ ⟨Bx, hBx, bX, rfl⟩ hlt
    have hzW := hB1.size
    have hsW := h0.below hB1
    obtain ⟨bv, hbv⟩ : ∃ bv, clB n d p q x = bv := ⟨_, rfl⟩
    obtain ⟨f, hf⟩ : ∃ f, apartV p.1 p.2 q.1 q.2 x.1.1 x.1.2 x.2.1 x.2.2 = f := ⟨_, rfl⟩
    have HA : Hid (∀ d' os, Calls Tryz.prog 30 #[.agg #[.int .i64 p.1, .int .i64 p.2, .int .i64 q.1, .int .i64 q.2], .agg #[.int .i64 x.1.1, .int .i64 x.1.2, .int .i64 x.2.1, .int .i64 x.2.2]] (grow (redrawn W d') os) fun e w' => e = .returned (.agg #[.int .i64 f.1, .int .i64 f.2]) ∧ Below (grow (redrawn W d') os).heap.size (grow (redrawn W d') os) w') := fun d' os => by
      have := segApart_any p.1 p.2 q.1 q.2 x.1.1 x.1.2 x.2.1 x.2.2 ad _ (hsW.below (below_regrown W d' os))
      rwa [hf] at this
    have HS : Hid (∀ d' os, Calls Tryz.prog 81 #[.agg #[.pointer (some ⟨b, 0, none⟩), .int .i64 n, .int .i64 d], .agg #[.int .i64 f.1, .int .i64 f.2]] (grow (redrawn W d') os) fun e W' => e = .returned (.bool bv) ∧ Below (grow (redrawn W d') os).heap.size (grow (redrawn W d') os) W') := fun d' os => by
      have := spares_any (some ⟨b, 0, none⟩) n d f ad _ (hsW.below (below_regrown W d' os))
      rw [← hbv]; unfold clB; rw [hf]; exact this
    obtain ⟨m0, m1, m2⟩ := reg_3 (show W.heap[w.heap.size]? = _ from M0)
    obtain ⟨y0, y1, y2, y3⟩ := reg_4 (show W.heap[w.heap.size + 1 + 1 + 1 + 1]? = _ from M4)
    obtain ⟨x0, x1, x2, x3⟩ := reg_4 (show W.heap[Bx]? = _ from bX)
    have HB : Hid (clB n d p q x = bv) := hbv
    clear hf hbv
    cases bv
    · gi_wp2
      refine wpIn_round_quiet hmx (by kernel_rfl) (by kernel_rfl) ?_
      repeat (first | go_big_quiet_step (first | (go_at_call 30; with_reducible exact Calls.regrown_of (HA.out _ _)) | (go_at_call 81; with_reducible exact Calls.regrown_of (HS.out _ _))))
      refine wpQuiet_nil ?_
      intro _ hw'
      obtain ⟨⟨dq, osq⟩, hw''⟩ := hw'
      subst hw''
      have J := below_regrown W dq osq
      generalize grow (redrawn W dq) osq = w1 at J ⊢
      have M3' := M3.below J
      have c3 := M3'.c1
      have f3 := M3'.f1
      gi_wp2
      exact ⟨((KeepsOthers.of_below J).trans (KeepsOthers.setCell _ _ _)).from _, ⟨⟨rfl, x, List.mem_append.2 (.inr (by simp)), HB.out⟩, M3'.set1 _⟩, (bw_trans hB1 J).setCell (p := ⟨w.heap.size + 1 + 1 + 1, 0, none⟩) (by simp; omega) _⟩
    · gi_wp2
      refine wpIn_round_quiet hmx (by kernel_rfl) (by kernel_rfl) ?_
      repeat (first | go_big_quiet_step (first | (go_at_call 30; with_reducible exact Calls.regrown_of (HA.out _ _)) | (go_at_call 81; with_reducible exact Calls.regrown_of (HS.out _ _))))
      refine wpQuiet_nil ?_
      intro _ hw'
      obtain ⟨⟨dq, osq⟩, hw''⟩ := hw'
      subst hw''
      have J := below_regrown W dq osq
      generalize grow (redrawn W dq) osq = w1 at J ⊢
      gi_wp2
      exact ⟨(KeepsOthers.of_below J).from _, KT.of_below J hzW, ⟨fun z hz => (List.mem_append.1 hz).elim (hp z) (fun e => by simp at e; rw [e]; exact HB.out), M0.below J, M3.below J, M4.below J⟩, bw_trans hB1 J⟩
  case done =>
    rintro D W hD ⟨⟨hp, M0, M3, M4⟩, hB1⟩ hK
    have cR := M3.c1
    have fR := M3.f1
    gi_wp2
    have hK' := (KeepsOthers.setCell W ⟨w.heap.size + 1 + 1 + 1, 0, none⟩ (.bool true)).same D _ hK rfl
    refine ⟨by simp, .inl ⟨_, _, rfl, run_takeDeferred hK', ?_⟩⟩
    have hc5 := ((M3.set1 (.bool true)).put (.deferred none) hK' rfl).c1
    refine ⟨.bool true, ?_, ?_, (hB1.setCell (p := ⟨w.heap.size + 1 + 1 + 1, 0, none⟩) (by simp; omega) _).trans (belowK_b (w := w) (Nat.le_refl _) _ D _ _ (by omega) hK' rfl rfl)⟩
    · simp [results, Tryz.f86, go_sem, hc5]
    · rw [List.all_eq_true.2 hp]
  case stop =>
    rintro D c pre W hD hpre ⟨⟨⟨rfl, x, hx, hbx⟩, M3⟩, hB1⟩ hK
    gi_wp2
    refine ⟨by simp, .inl ⟨_, _, rfl, run_takeDeferred hK, ?_⟩⟩
    have hc5 := (M3.put (.deferred none) hK rfl).c1
    refine ⟨.bool false, ?_, ?_, hB1.trans (belowK_b (w := w) (Nat.le_refl _) _ D _ _ (by omega) hK rfl rfl)⟩
    · simp [results, Tryz.f86, go_sem, hc5]
    · have : (edgR rs).all (clB n d p q) = false := by
        rw [Bool.eq_false_iff]
        intro hc
        have := List.all_eq_true.1 hc x (hpre.subset hx)
        rw [hbx] at this; cases this
      rw [this]
theorem clears_any (b : Nat) (rs : List RingT) (n d : Int) (p q : P2) (ad : Addr) (w : World) (h0 : Sent ad w) (hR : RingN w.heap.size w (some ⟨b, 0, none⟩) rs) :
    Calls Tryz.prog 86 #[.agg #[.pointer (some ⟨b, 0, none⟩), .int .i64 n, .int .i64 d], .agg #[.int .i64 p.1, .int .i64 p.2], .agg #[.int .i64 q.1, .int .i64 q.2]] w fun e W' => e = .returned (.bool ((edgR rs).all (clB n d p q))) ∧ Below w.heap.size w W' :=
  callsIn_wide.1 (clears_in 12 (Nat.le_refl _) b rs n d p q ad w h0 hR)
end Go.Proofs.YtmdjhoknlplecaaGreatDoor
namespace Go.Proofs.YtmdjhoknlplecaaGreatDoor
open Go.RowKit Go.Sort

/-- It may go, where all is ok and both are beside each other. -/
def mayI (o : List P2) (hs : List (List P2)) (r : Int) (p q : P2) : Bool := fitI o hs r p && fitI o hs r q && (plE o hs).all (clB r 1 p q)
/-- It may go, where the tool is one on a plate. -/
def mayT (o : List P2) (hs : List (List P2)) (r : Int) (p q : P2) : Bool := ptB p.1 p.2 && ptB q.1 q.2 && decide (dt p.1 p.2 q.1 q.2 q.1 q.2 = 1) && mayI o hs r p q
/-- It may go. -/
def mayV (o : List P2) (hs : List (List P2)) (r : Int) (p q : P2) : Bool := rV r && plV o hs && ptB p.1 p.2 && ptB q.1 q.2 && decide (dt p.1 p.2 q.1 q.2 q.1 q.2 = 1) && mayI o hs r p q
theorem mayV_of {o : List P2} {hs : List (List P2)} {r : Int} {p q : P2} (hr : rV r = true) (hv : plV o hs = true) : mayV o hs r p q = mayT o hs r p q := by
  unfold mayV mayT; rw [hr, hv]; simp
set_option maxRecDepth 100000 in
set_option maxHeartbeats 4000000 in
theorem may_any (a : Option Addr) (la ca : Nat) (b : Nat) (xs : List RingT) (o : List P2) (hs : List (List P2)) (n : Int) (p q : P2) (ad : Addr) (w : World) (h0 : Sent ad w) (hR : RingL w.heap.size w (some ⟨b, 0, none⟩) (⟨a, la, ca, o⟩ :: xs)) (hx : xs.map RingT.pts = hs) (hv : plV o hs = true) (hr : rV n = true) :
    Calls Tryz.prog 47 #[.agg #[.pointer (some ⟨b, 0, none⟩), .int .i64 n, .int .i64 1], .agg #[.int .i64 p.1, .int .i64 p.2], .agg #[.int .i64 q.1, .int .i64 q.2]] w fun e W' => e = .returned (.bool (mayT o hs n p q)) ∧ Below w.heap.size w W' := by
  obtain ⟨W, hW, K, F, T, U⟩ := boxes3 w (.cells #[.pointer (some ⟨b, 0, none⟩), .int .i64 n, .int .i64 1] 74) (.cells #[.int .i64 p.1, .int .i64 p.2] 35) (.cells #[.int .i64 q.1, .int .i64 q.2] 35)
  have zB := K.size
  replace hR := hR.below K (Nat.le_refl _)
  go_enter Tryz.func47, Tryz.ntmps47
  go_upto_region 1 with fail
  rw [← hW]
  clear hW
  have n24 := plE_len o hs
  cases hp : ptB p.1 p.2
  · have e1 : Hid (mayT o hs n p q = false) := by change _ = _; unfold mayT; rw [hp]; rfl
    obtain ⟨t0, t1⟩ := blk_2 T
    obtain ⟨u0, u1⟩ := blk_2 U
    obtain ⟨f0, f1, f2⟩ := blk_3 F
    go_wp2_with fail
    refine (pt_raw p _).mono ?_
    rw [hp]
    rintro e v2 ⟨rfl, J⟩
    have zz2 := J.size
    replace T := keep J T
    replace U := keep J U
    replace F := keep J F
    replace K := bw_trans K J
    replace hR := hR.below J (by omega)
    clear t0 t1 u0 u1 f0 f1 f2 J
    go_wp2_with fail
    go_ret
    exact ⟨by rw [e1.out]; rfl, K⟩
  obtain ⟨t0, t1⟩ := blk_2 T
  obtain ⟨u0, u1⟩ := blk_2 U
  obtain ⟨f0, f1, f2⟩ := blk_3 F
  go_wp2_with fail
  refine (pt_raw p _).mono ?_
  rw [hp]
  rintro e v3 ⟨rfl, J⟩
  have zz3 := J.size
  replace T := keep J T
  replace U := keep J U
  replace F := keep J F
  replace K := bw_trans K J
  replace hR := hR.below J (by omega)
  clear t0 t1 u0 u1 f0 f1 f2 J
  cases hq : ptB q.1 q.2
  · have e1 : Hid (mayT o hs n p q = false) := by change _ = _; unfold mayT; rw [hp, hq]; rfl
    obtain ⟨t0, t1⟩ := blk_2 T
    obtain ⟨u0, u1⟩ := blk_2 U
    obtain ⟨f0, f1, f2⟩ := blk_3 F
    go_wp2_with fail
    refine (pt_raw q _).mono ?_
    rw [hq]
    rintro e v4 ⟨rfl, J⟩
    have zz4 := J.size
    replace T := keep J T
    replace U := keep J U
    replace F := keep J F
    replace K := bw_trans K J
    replace hR := hR.below J (by omega)
    clear t0 t1 u0 u1 f0 f1 f2 J
    go_wp2_with fail
    go_ret
    exact ⟨by rw [e1.out]; rfl, K⟩
  obtain ⟨t0, t1⟩ := blk_2 T
  obtain ⟨u0, u1⟩ := blk_2 U
  obtain ⟨f0, f1, f2⟩ := blk_3 F
  go_wp2_with fail
  refine (pt_raw q _).mono ?_
  rw [hq]
  rintro e v5 ⟨rfl, J⟩
  have zz5 := J.size
  replace T := keep J T
  replace U := keep J U
  replace F := keep J F
  replace K := bw_trans K J
  replace hR := hR.below J (by omega)
  clear t0 t1 u0 u1 f0 f1 f2 J
  by_cases hd : dt p.1 p.2 q.1 q.2 q.1 q.2 = 1
  case neg =>
    have e1 : Hid (mayT o hs n p q = false) := by change _ = _; unfold mayT; rw [hp, hq, decide_eq_false hd]; rfl
    have hd' : (dt p.1 p.2 q.1 q.2 q.1 q.2 == 1) = false := by simpa using hd
    have hsq := fun V => square_ok p.1 p.2 q.1 q.2 V hp hq
    generalize dt p.1 p.2 q.1 q.2 q.1 q.2 = sq at *
    clear hd
    obtain ⟨t0, t1⟩ := blk_2 T
    obtain ⟨u0, u1⟩ := blk_2 U
    obtain ⟨f0, f1, f2⟩ := blk_3 F
    go_wp2_with fail
    refine (hsq _).mono ?_
    rintro e v6 ⟨rfl, J⟩
    have zz6 := J.size
    replace T := keep J T
    replace U := keep J U
    replace F := keep J F
    replace K := bw_trans K J
    replace hR := hR.below J (by omega)
    clear t0 t1 u0 u1 f0 f1 f2 J
    go_wp2_with fail
    go_ret
    exact ⟨by rw [e1.out]; rfl, K⟩
  have e0 : Hid (mayT o hs n p q = mayI o hs n p q) := by change _ = _; unfold mayT; rw [hp, hq, decide_eq_true hd]; rfl
  have hsq := fun V => square_ok p.1 p.2 q.1 q.2 V hp hq
  rw [hd] at hsq
  clear hd
  obtain ⟨t0, t1⟩ := blk_2 T
  obtain ⟨u0, u1⟩ := blk_2 U
  obtain ⟨f0, f1, f2⟩ := blk_3 F
  go_wp2_with fail
  refine (hsq _).mono ?_
  rintro e v7 ⟨rfl, J⟩
  have zz7 := J.size
  replace T := keep J T
  replace U := keep J U
  replace F := keep J F
  replace K := bw_trans K J
  replace hR := hR.below J (by omega)
  clear t0 t1 u0 u1 f0 f1 f2 J
  cases hfp : fitI o hs n p
  · have e1 : Hid (mayT o hs n p q = false) := by change _ = _; rw [e0.out]; unfold mayI; rw [hfp]; rfl
    obtain ⟨t0, t1⟩ := blk_2 T
    obtain ⟨u0, u1⟩ := blk_2 U
    obtain ⟨f0, f1, f2⟩ := blk_3 F
    go_wp2_with fail
    refine (fits_any b ⟨a, la, ca, o⟩ xs hs n p ad _ (h0.below K) (hR.grow (by omega)) hx hv hr hp).mono ?_
    rw [hfp]
    rintro e v8 ⟨rfl, J⟩
    have zz8 := J.size
    replace T := keep J T
    replace U := keep J U
    replace F := keep J F
    replace K := bw_trans K J
    replace hR := hR.below J (by omega)
    clear t0 t1 u0 u1 f0 f1 f2 J
    go_wp2_with fail
    go_ret
    exact ⟨by rw [e1.out]; rfl, K⟩
  obtain ⟨t0, t1⟩ := blk_2 T
  obtain ⟨u0, u1⟩ := blk_2 U
  obtain ⟨f0, f1, f2⟩ := blk_3 F
  go_wp2_with fail
  refine (fits_any b ⟨a, la, ca, o⟩ xs hs n p ad _ (h0.below K) (hR.grow (by omega)) hx hv hr hp).mono ?_
  rw [hfp]
  rintro e v9 ⟨rfl, J⟩
  have zz9 := J.size
  replace T := keep J T
  replace U := keep J U
  replace F := keep J F
  replace K := bw_trans K J
  replace hR := hR.below J (by omega)
  clear t0 t1 u0 u1 f0 f1 f2 J
  cases hfq : fitI o hs n q
  · have e1 : Hid (mayT o hs n p q = false) := by change _ = _; rw [e0.out]; unfold mayI; rw [hfp, hfq]; rfl
    obtain ⟨t0, t1⟩ := blk_2 T
    obtain ⟨u0, u1⟩ := blk_2 U
    obtain ⟨f0, f1, f2⟩ := blk_3 F
    go_wp2_with fail
    refine (fits_any b ⟨a, la, ca, o⟩ xs hs n q ad _ (h0.below K) (hR.grow (by omega)) hx hv hr hq).mono ?_
    rw [hfq]
    rintro e v10 ⟨rfl, J⟩
    have zz10 := J.size
    replace T := keep J T
    replace U := keep J U
    replace F := keep J F
    replace K := bw_trans K J
    replace hR := hR.below J (by omega)
    clear t0 t1 u0 u1 f0 f1 f2 J
    go_wp2_with fail
    go_ret
    exact ⟨by rw [e1.out]; rfl, K⟩
  obtain ⟨t0, t1⟩ := blk_2 T
  obtain ⟨u0, u1⟩ := blk_2 U
  obtain ⟨f0, f1, f2⟩ := blk_3 F
  go_wp2_with fail
  refine (fits_any b ⟨a, la, ca, o⟩ xs hs n q ad _ (h0.below K) (hR.grow (by omega)) hx hv hr hq).mono ?_
  rw [hfq]
  rintro e v11 ⟨rfl, J⟩
  have zz11 := J.size
  replace T := keep J T
  replace U := keep J U
  replace F := keep J F
  replace K := bw_trans K J
  replace hR := hR.below J (by omega)
  clear t0 t1 u0 u1 f0 f1 f2 J
  have hE : edgR (⟨a, la, ca, o⟩ :: xs) = plE o hs := by rw [edgR_eq _ _ hs hx, plE_eq hv]
  have hC := fun V (hV : Sent ad V) hRN => clears_any b (⟨a, la, ca, o⟩ :: xs) n 1 p q ad V hV hRN
  rw [hE] at hC
  have e1 : Hid (mayT o hs n p q = (plE o hs).all (clB n 1 p q)) := by change _ = _; rw [e0.out]; unfold mayI; rw [hfp, hfq]; rfl
  generalize (plE o hs).all (clB n 1 p q) = bl at *
  obtain ⟨t0, t1⟩ := blk_2 T
  obtain ⟨u0, u1⟩ := blk_2 U
  obtain ⟨f0, f1, f2⟩ := blk_3 F
  go_wp2_with fail
  refine (hC _ (h0.below K) (RingL.ringN (Nat.le_refl _) (hR.grow (by omega)))).mono ?_
  rintro e v12 ⟨rfl, J⟩
  have zz12 := J.size
  replace T := keep J T
  replace U := keep J U
  replace F := keep J F
  replace K := bw_trans K J
  replace hR := hR.below J (by omega)
  clear t0 t1 u0 u1 f0 f1 f2 J
  go_wp2_with fail
  go_ret
  exact ⟨by rw [e1.out]; rfl, K⟩
set_option maxRecDepth 100000 in
set_option maxHeartbeats 4000000 in
theorem toolMay_any (a ah : Option Addr) (la ca nh ch : Nat) (o : List P2) (hs : List (List P2)) (r : Int) (p q : P2) (ad : Addr) (w : World) (h0 : Sent ad w) (h : Plt w a la ah nh o hs) :
    Calls Tryz.prog 18 #[.agg #[.slice a la ca, .slice ah nh ch], .int .i64 r, .agg #[.int .i64 p.1, .int .i64 p.2], .agg #[.int .i64 q.1, .int .i64 q.2]] w fun e W' => e = .returned (.bool (mayV o hs r p q)) ∧ Below w.heap.size w W' := by
  obtain ⟨W, hW, BW, TP, T, U⟩ := boxes3 w (.cells #[.slice a la ca, .slice ah nh ch] 33) (.cells #[.int .i64 p.1, .int .i64 p.2] 35) (.cells #[.int .i64 q.1, .int .i64 q.2] 35)
  have hT := toolOn_any a ah la ca nh ch o hs r ad W (h0.below BW) (h.below BW)
  have zB := BW.size
  obtain ⟨t0, t1⟩ := blk_2 TP
  cases hrv : rV r && plV o hs
  · have e1 : Hid (mayV o hs r p q = false) := by change _ = _; unfold mayV; rw [hrv]; rfl
    rw [hrv] at hT
    go_enter Tryz.func18, Tryz.ntmps18
    go_upto_region 1 with fail
    rw [← hW]
    clear hW
    go_wp2_with fail
    refine hT.mono ?_
    rintro e w1 ⟨⟨qq, n, d, rfl, -⟩, J⟩
    obtain ⟨W1, hW1, B1, F⟩ : ∃ W1, W1 = w1.alloc (.cells #[.pointer qq, .int .i64 n, .int .i64 d] 74) ∧ Below w1.heap.size w1 W1 ∧ W1.heap[w1.heap.size]? = some (.cells #[.pointer qq, .int .i64 n, .int .i64 d] 74 (0, 0)) := ⟨_, rfl, (by repeat (first | exact bw_refl _ | assumption | apply bw_drewN | apply bw_drew | apply bw_alloc | refine bw_set ?_ (by simp) _)), heap_new _ _⟩
    go_upto_region 2 with fail
    rw [← hW1]
    clear hW1
    go_wp2_with fail
    go_ret
    exact ⟨by rw [e1.out]; rfl, bw_trans (bw_trans BW J) B1⟩
  rw [hrv] at hT
  rw [Bool.and_eq_true] at hrv
  obtain ⟨hr, hv⟩ := hrv
  rw [mayV_of hr hv]
  go_enter Tryz.func18, Tryz.ntmps18
  go_upto_region 1 with fail
  rw [← hW]
  clear hW
  go_wp2_with fail
  refine hT.mono ?_
  rintro e w1 ⟨⟨qq, n, d, rfl, hR0⟩, J⟩
  obtain ⟨rfl, rfl, b, xs, rfl, hR, hx⟩ := hR0 rfl
  clear hR0
  obtain ⟨W1, hW1, B1, F⟩ : ∃ W1, W1 = w1.alloc (.cells #[.pointer (some ⟨b, 0, none⟩), .int .i64 n, .int .i64 1] 74) ∧ Below w1.heap.size w1 W1 ∧ W1.heap[w1.heap.size]? = some (.cells #[.pointer (some ⟨b, 0, none⟩), .int .i64 n, .int .i64 1] 74 (0, 0)) := ⟨_, rfl, (by repeat (first | exact bw_refl _ | assumption | apply bw_drewN | apply bw_drew | apply bw_alloc | refine bw_set ?_ (by simp) _)), heap_new _ _⟩
  have K := bw_trans J B1
  have zJ := J.size
  have zB1 := B1.size
  replace T := keep K T
  replace U := keep K U
  replace hR := hR.below B1 (by omega)
  replace K := bw_trans BW K
  clear t0 t1 J B1 hT
  go_upto_region 2 with fail
  rw [← hW1]
  clear hW1
  have hM := may_any a la ca b xs o hs n p q ad W1 (h0.below K) (hR.grow (by omega)) hx hv hr
  obtain ⟨bm, hbm⟩ : ∃ bm, mayT o hs n p q = bm := ⟨_, rfl⟩
  rw [hbm] at hM
  have HM : Hid (mayT o hs n p q = bm) := hbm
  clear hbm
  obtain ⟨t0, t1⟩ := blk_2 T
  obtain ⟨u0, u1⟩ := blk_2 U
  obtain ⟨f0, f1, f2⟩ := blk_3 F
  go_wp2_with fail
  refine hM.mono ?_
  rintro e w2 ⟨rfl, J⟩
  go_wp2_with fail
  go_ret
  exact ⟨by rw [HM.out]; rfl, bw_trans K J⟩
end Go.Proofs.YtmdjhoknlplecaaGreatDoor
namespace Go.Proofs.YtmdjhoknlplecaaGreatDoor
open Go.RowKit Go.Sort

/-- An edge is in the way: as the specification says. -/
def hitI (p q : P2) (r : Int) (s : P2 × P2) : Bool := meetP p q s.1 s.2 || nearI (p, q) r s.1 || nearI (p, q) r s.2
theorem beside_sg {p q : P2} (hp : ptB p.1 p.2 = true) (hq : ptB q.1 q.2 = true) (hd : dt p.1 p.2 q.1 q.2 q.1 q.2 = 1) : sgP p q = true := by
  unfold sgP
  rw [sgB_iff]
  rw [ptB_iff] at hp hq
  refine ⟨hp, hq, fun ⟨h1, h2⟩ => ?_⟩
  unfold dt at hd
  rw [h1, h2] at hd
  simp at hd
theorem sp_least {r : Int} {m a b c d : Int × Int} (hr : rV r = true) (ha : OkF a) (hb : OkF b) (hc : OkF c) (hd : OkF d) (h : Least m a b c d) : spB r m = (spB r a && spB r b && spB r c && spB r d) := by
  have hm := h.ok ha hb hc hd
  obtain ⟨hmem, l1, l2, l3, l4⟩ := h
  rw [Bool.eq_iff_iff]
  simp only [Bool.and_eq_true]
  constructor
  · intro h
    exact ⟨⟨⟨sp_le hr hm ha l1 h, sp_le hr hm hb l2 h⟩, sp_le hr hm hc l3 h⟩, sp_le hr hm hd l4 h⟩
  · rintro ⟨⟨⟨h1, h2⟩, h3⟩, h4⟩
    rcases hmem with e | e | e | e <;> rw [e] <;> assumption
/-- What the program asks of an edge is what the specification asks, where the tool fits at both ends. -/
theorem cl_hit {r : Int} {p q : P2} {s : P2 × P2} (hr : rV r = true) (hw : sgP p q = true) (hs : sgP s.1 s.2 = true) (h1 : spB r (farS p s) = true) (h2 : spB r (farS q s) = true) : clB r 1 p q s = !hitI p q r s := by
  have hp := (sgP_pt hw).1
  have hq := (sgP_pt hw).2
  have ha := (sgP_pt hs).1
  have hb := (sgP_pt hs).2
  have e0 : apartV p.1 p.2 q.1 q.2 s.1.1 s.1.2 s.2.1 s.2.2 = apart p.1 p.2 q.1 q.2 s.1.1 s.1.2 s.2.1 s.2.2 := by
    unfold apartV; rw [show sgB p.1 p.2 q.1 q.2 = true from hw, show sgB s.1.1 s.1.2 s.2.1 s.2.2 = true from hs]; rfl
  have hok : OkF (apart p.1 p.2 q.1 q.2 s.1.1 s.1.2 s.2.1 s.2.2) := apart_ok hw hs
  unfold clB
  rw [e0, sp_cmp hr hok]
  unfold hitI
  cases hm : meetP p q s.1 s.2
  · have L := apart_least hw hs hm
    obtain ⟨o1, o2, o3, o4⟩ := four_ok hw hs
    rw [sp_least hr o1 o2 o3 o4 L]
    have n1 := near_far (s := (p, q)) (r := r) hw ha
    have n2 := near_far (s := (p, q)) (r := r) hw hb
    rw [farS_of (s := (p, q)) hw ha] at n1
    rw [farS_of (s := (p, q)) hw hb] at n2
    rw [farS_of hs hp] at h1
    rw [farS_of hs hq] at h2
    rw [n1, n2]
    dsimp only at *
    rw [h1, h2]
    cases spB r (far p.1 p.2 q.1 q.2 s.1.1 s.1.2) <;> cases spB r (far p.1 p.2 q.1 q.2 s.2.1 s.2.2) <;> rfl
  · rw [apart_yes hm]
    rw [rV_iff] at hr
    unfold spB
    rw [decide_eq_false (by dsimp only; omega)]
    rfl
theorem fit_far {o : List P2} {hs : List (List P2)} {r : Int} {p : P2} (hr : rV r = true) (hv : plV o hs = true) (hp : ptB p.1 p.2 = true) (h : fitI o hs r p = true) {s : P2 × P2} (hs' : s ∈ plE o hs) : spB r (farS p s) = true := by
  unfold fitI at h
  rw [Bool.and_eq_true] at h
  exact sp_le hr (plFI_ok hv hp) (farS_ok (plE_ok hv hs') hp) ((plFI_least hv hp).le _ (List.mem_map.2 ⟨s, hs', rfl⟩)) h.2
theorem mayI_hit {o : List P2} {hs : List (List P2)} {r : Int} {p q : P2} (hr : rV r = true) (hv : plV o hs = true) (hp : ptB p.1 p.2 = true) (hq : ptB q.1 q.2 = true) (hd : dt p.1 p.2 q.1 q.2 q.1 q.2 = 1) : mayI o hs r p q = (fitI o hs r p && fitI o hs r q && (plE o hs).all fun s => !hitI p q r s) := by
  unfold mayI
  cases h1 : fitI o hs r p
  · rfl
  cases h2 : fitI o hs r q
  · rfl
  have hw := beside_sg hp hq hd
  simp only [Bool.true_and]
  rw [Bool.eq_iff_iff, List.all_eq_true, List.all_eq_true]
  refine ⟨fun h s hs' => ?_, fun h s hs' => ?_⟩
  · rw [← cl_hit hr hw (plE_ok hv hs') (fit_far hr hv hp h1 hs') (fit_far hr hv hq h2 hs')]; exact h s hs'
  · rw [cl_hit hr hw (plE_ok hv hs') (fit_far hr hv hp h1 hs') (fit_far hr hv hq h2 hs')]; exact h s hs'
end Go.Proofs.YtmdjhoknlplecaaGreatDoor
namespace Go.Proofs.YtmdjhoknlplecaaGreatDoor
open Go.RowKit Go.Sort

set_option maxRecDepth 100000 in
set_option maxHeartbeats 8000000 in
theorem sMayI_ok (a ah : Option Addr) (la ca nh ch : Nat) (o : List P2) (hs : List (List P2)) (g len cap : Nat) (r : Int) (p q : P2) (w : World) (h : Plt w a la ah nh o hs) (hv : plV o hs = true) (hr : rV r = true) (hp : ptB p.1 p.2 = true) (hq : ptB q.1 q.2 = true) (hd : dt p.1 p.2 q.1 q.2 q.1 q.2 = 1) (hS : SRow w g (plE o hs)) (zg : g < w.heap.size) (hl : (plE o hs).length = len) :
    Calls Tryz.prog 46 #[.agg #[.slice a la ca, .slice ah nh ch], .slice (some ⟨g, 0, none⟩) len cap, .int .i64 r, .agg #[.int .i64 p.1, .int .i64 p.2], .agg #[.int .i64 q.1, .int .i64 q.2]] w fun e W' => e = .returned (.bool (mayI o hs r p q)) ∧ Below w.heap.size w W' := by
  obtain ⟨W, hW, BW, TP, T, U⟩ := boxes3 w (.cells #[.slice a la ca, .slice ah nh ch] 33) (.cells #[.int .i64 p.1, .int .i64 p.2] 35) (.cells #[.int .i64 q.1, .int .i64 q.2] 35)
  have hr' := (rV_iff r).1 hr
  have hw := beside_sg hp hq hd
  have h24 := plE_len o hs
  have hok : ∀ s ∈ plE o hs, sgP s.1 s.2 = true := fun s hs' => plE_ok hv hs'
  have HFI : Hid (∀ p' : P2, ptB p'.1 p'.2 = true → ∀ V, Below w.heap.size w V → Calls Tryz.prog 36 #[.agg #[.slice a la ca, .slice ah nh ch], .slice (some ⟨g, 0, none⟩) len cap, .int .i64 r, .agg #[.int .i64 p'.1, .int .i64 p'.2]] V fun e W' => e = .returned (.bool (fitI o hs r p')) ∧ Below V.heap.size V W') := fun p' hp' V hV => by
    have := sFits_ok a ah la ca nh ch o hs g len cap (plE o hs) r p' V (h.below hV) hv hr hp' (hS.below hV zg) (by have := hV.size; omega) hl (by omega) hok
    rw [fitI_all hr hv hp']; exact this
  have HM : Hid (mayI o hs r p q = (fitI o hs r p && fitI o hs r q && (plE o hs).all fun s => !hitI p q r s)) := mayI_hit hr hv hp hq hd
  have HA : Hid (((plE o hs).all fun s => !hitI p q r s) = true ↔ ∀ k, k < len → hitI p q r (sAt (plE o hs) k) = false) := by
    change _ ↔ _
    rw [List.all_eq_true]
    constructor
    · intro h k hk; simpa using h _ (sAt_mem (show k < (plE o hs).length by omega))
    · intro h s hs'
      obtain ⟨k, hk, rfl⟩ := List.getElem_of_mem hs'
      have this : hitI p q r (sAt (plE o hs) k) = false := h k (by omega)
      rw [show sAt (plE o hs) k = (plE o hs)[k] by unfold sAt; rw [List.getElem?_eq_getElem hk, Option.getD_some]] at this
      rw [this]; rfl
  have HC : Hid (∀ k, k < len → ∀ V, Calls Tryz.prog 84 #[.agg #[.int .i64 p.1, .int .i64 p.2, .int .i64 q.1, .int .i64 q.2], .agg #[.int .i64 (sAt (plE o hs) k).1.1, .int .i64 (sAt (plE o hs) k).1.2, .int .i64 (sAt (plE o hs) k).2.1, .int .i64 (sAt (plE o hs) k).2.2]] V (fun e w' => e = .returned (.bool (meetP p q (sAt (plE o hs) k).1 (sAt (plE o hs) k).2)) ∧ Below V.heap.size V w')
      ∧ Calls Tryz.prog 75 #[.agg #[.int .i64 p.1, .int .i64 p.2, .int .i64 q.1, .int .i64 q.2], .int .i64 r, .agg #[.int .i64 (sAt (plE o hs) k).1.1, .int .i64 (sAt (plE o hs) k).1.2]] V (fun e w' => e = .returned (.bool (nearI (p, q) r (sAt (plE o hs) k).1)) ∧ Below V.heap.size V w')
      ∧ Calls Tryz.prog 75 #[.agg #[.int .i64 p.1, .int .i64 p.2, .int .i64 q.1, .int .i64 q.2], .int .i64 r, .agg #[.int .i64 (sAt (plE o hs) k).2.1, .int .i64 (sAt (plE o hs) k).2.2]] V (fun e w' => e = .returned (.bool (nearI (p, q) r (sAt (plE o hs) k).2)) ∧ Below V.heap.size V w')) := fun k hk V => by
    have hk' := hok _ (sAt_mem (show k < (plE o hs).length by omega))
    exact ⟨sMeet_raw p q _ _ hw hk' V, sNear_any _ _ _ _ _ _ r V hr' hw (sgP_pt hk').1, sNear_any _ _ _ _ _ _ r V hr' hw (sgP_pt hk').2⟩
  have HS : Hid (∀ k, k < len → w.cell? ⟨g, k * 4, none⟩ = some (.int .i64 (sAt (plE o hs) k).1.1) ∧ w.cell? ⟨g, k * 4 + 1, none⟩ = some (.int .i64 (sAt (plE o hs) k).1.2) ∧ w.cell? ⟨g, k * 4 + 2, none⟩ = some (.int .i64 (sAt (plE o hs) k).2.1) ∧ w.cell? ⟨g, k * 4 + 3, none⟩ = some (.int .i64 (sAt (plE o hs) k).2.2)) := fun k hk => hS k (by omega)
  have HFP := fun V hV => HFI.out p hp V hV
  have HFQ := fun V hV => HFI.out q hq V hV
  have hl2 : len ≤ 24 := by omega
  clear HFI hok hl hS h hv hr hp hq hd hw h24
  go_enter Tryz.func46, Tryz.ntmps46
  go_upto_region 1 with fail
  rw [← hW]
  clear hW
  cases hfp : fitI o hs r p
  · have e1 : Hid (mayI o hs r p q = false) := by change _ = _; rw [HM.out, hfp]; rfl
    have hc := HFP W BW
    rw [hfp] at hc
    obtain ⟨t0, t1⟩ := blk_2 TP
    obtain ⟨u0, u1⟩ := blk_2 T
    go_wp2_with fail
    refine hc.mono ?_
    rintro e v1 ⟨rfl, J⟩
    go_wp2_with fail
    go_ret
    exact ⟨by rw [e1.out]; rfl, bw_trans BW J⟩
  have hc := HFP W BW
  rw [hfp] at hc
  obtain ⟨t0, t1⟩ := blk_2 TP
  obtain ⟨u0, u1⟩ := blk_2 T
  go_wp2_with fail
  refine hc.mono ?_
  rintro e v1 ⟨rfl, J⟩
  have K := bw_trans BW J
  replace TP := keep J TP
  replace T := keep J T
  replace U := keep J U
  clear t0 t1 u0 u1 J hc BW
  have hc := HFQ v1 K
  cases hfq : fitI o hs r q
  · have e1 : Hid (mayI o hs r p q = false) := by change _ = _; rw [HM.out, hfp, hfq]; rfl
    rw [hfq] at hc
    obtain ⟨t0, t1⟩ := blk_2 TP
    obtain ⟨u0, u1⟩ := blk_2 U
    go_wp2_with fail
    refine hc.mono ?_
    rintro e v2 ⟨rfl, J⟩
    go_wp2_with fail
    go_ret
    exact ⟨by rw [e1.out]; rfl, bw_trans K J⟩
  rw [hfq] at hc
  obtain ⟨t0, t1⟩ := blk_2 TP
  obtain ⟨u0, u1⟩ := blk_2 U
  go_wp2_with fail
  refine hc.mono ?_
  rintro e v2 ⟨rfl, J⟩
  replace K := bw_trans K J
  replace T := keep J T
  replace U := keep J U
  clear t0 t1 u0 u1 J hc
  obtain ⟨t0, t1⟩ := blk_2 T
  obtain ⟨u0, u1⟩ := blk_2 U
  have e0 : Hid (mayI o hs r p q = (plE o hs).all fun s => !hitI p q r s) := by change _ = _; rw [HM.out, hfp, hfq]; rfl
  obtain ⟨V, hV, BV, Y⟩ : ∃ V, V = v2.alloc (.cells #[.int .i64 p.1, .int .i64 p.2, .int .i64 q.1, .int .i64 q.2] 62) ∧ Below v2.heap.size v2 V ∧ V.heap[v2.heap.size]? = some (.cells #[.int .i64 p.1, .int .i64 p.2, .int .i64 q.1, .int .i64 q.2] 62 (0, 0)) := ⟨_, rfl, (by repeat (first | exact bw_refl _ | assumption | apply bw_drewN | apply bw_drew | apply bw_alloc | refine bw_set ?_ (by simp) _)), heap_new _ _⟩
  replace K := bw_trans K BV
  clear HM HFP HFQ hfp hfq BV T U TP
  generalize ((plE o hs).all fun s => !hitI p q r s) = al at *
  generalize plE o hs = ss at *
  go_upto_region 4 with fail
  rw [← hV]
  clear hV t0 t1 u0 u1
  go_wp2_with fail
  go_loopw [12] (fun i wr => ∃ k : Nat, k ≤ len ∧ i = .int .i64 k ∧ (∀ j, j < k → hitI p q r (sAt ss j) = false) ∧ Below V.heap.size V wr) (fun i _ => len - (intOf i).toNat)
  case atStart => exact ⟨0, Nat.zero_le _, rfl, fun j hj => absurd hj (Nat.not_lt_zero _), bw_refl _⟩
  case round =>
    obtain ⟨k, hk, rfl, hb, hnx⟩ := hrel
    have HB : Hid (∀ j, j < k → hitI p q r (sAt ss j) = false) := hb
    clear hb
    have KW := bw_trans K hnx
    by_cases hlt : k < len
    case pos =>
      obtain ⟨s0, s1, s2, s3⟩ := HS.out k hlt
      obtain ⟨d0, d1, d2, d3⟩ := regrow4 ⟨(KW.cell (p := ⟨g, k * 4, none⟩) zg).trans s0, (KW.cell (p := ⟨g, k * 4 + 1, none⟩) zg).trans s1, (KW.cell (p := ⟨g, k * 4 + 2, none⟩) zg).trans s2, (KW.cell (p := ⟨g, k * 4 + 3, none⟩) zg).trans s3⟩
      obtain ⟨y0, y1, y2, y3⟩ := reg_4 (keep hnx Y)
      have i0 : (0 : Int) ≤ (k : Int) := Int.natCast_nonneg _
      have i1 : (k : Int) < (len : Int) := by omega
      have i2 : (k : Int) ≤ 24 := by omega
      have hX := HC.out k hlt
      have HX1 : Hid (∀ V, _) := fun V => (hX V).1
      have HX2 : Hid (∀ V, _) := fun V => (hX V).2.1
      have HX3 : Hid (∀ V, _) := fun V => (hX V).2.2
      have HH : Hid (hitI p q r (sAt ss k) = (meetP p q (sAt ss k).1 (sAt ss k).2 || nearI (p, q) r (sAt ss k).1 || nearI (p, q) r (sAt ss k).2)) := rfl
      clear hX s0 s1 s2 s3
      generalize meetP p q (sAt ss k).1 (sAt ss k).2 = b1 at *
      generalize nearI (p, q) r (sAt ss k).1 = b2 at *
      generalize nearI (p, q) r (sAt ss k).2 = b3 at *
      cases b1
      · cases b2
        · cases b3
          · go_wp2_with fail
            refine wp_region_quiet_below (by kernel_rfl) (by kernel_rfl) ?_
            repeat (first | go_big_quiet_step (first | (go_at_call 84; with_reducible exact Calls.regrown_of (HX1.out _)) | (go_at_call 75; with_reducible exact Calls.regrown_of (HX2.out _)) | (go_at_call 75; with_reducible exact Calls.regrown_of (HX3.out _))))
            refine wpQuiet_nil ?_
            intro _ hw'
            obtain ⟨⟨dq, osq⟩, hw''⟩ := hw'
            subst hw''
            have J := below_regrown wr dq osq
            generalize grow (redrawn wr dq) osq = v5 at J ⊢
            go_wp2_with fail
            go_roundw
            case rel =>
              refine ⟨k + 1, by omega, by simp, fun j hj => ?_, bw_trans hnx J⟩
              rcases Nat.lt_or_ge j k with hjk | hjk
              · exact HB.out j hjk
              · obtain rfl : j = k := by omega
                exact HH.out
            case measure => simp [intOf]; omega
          · have e1 : Hid (mayI o hs r p q = false) := by
              change _ = _
              rw [e0.out, Bool.eq_false_iff]
              intro hc
              have h9 := HA.out.1 hc k hlt
              rw [HH.out] at h9; simp at h9
            go_wp2_with fail
            refine wp_region_quiet_below (by kernel_rfl) (by kernel_rfl) ?_
            repeat (first | go_big_quiet_step (first | (go_at_call 84; with_reducible exact Calls.regrown_of (HX1.out _)) | (go_at_call 75; with_reducible exact Calls.regrown_of (HX2.out _)) | (go_at_call 75; with_reducible exact Calls.regrown_of (HX3.out _))))
            refine wpQuiet_nil ?_
            intro _ hw'
            obtain ⟨⟨dq, osq⟩, hw''⟩ := hw'
            subst hw''
            have J := below_regrown wr dq osq
            generalize grow (redrawn wr dq) osq = v5 at J ⊢
            go_wp2_with fail
            go_ret
            exact ⟨by rw [e1.out]; rfl, bw_trans KW J⟩
        · have e1 : Hid (mayI o hs r p q = false) := by
            change _ = _
            rw [e0.out, Bool.eq_false_iff]
            intro hc
            have h9 := HA.out.1 hc k hlt
            rw [HH.out] at h9; simp at h9
          go_wp2_with fail
          refine wp_region_quiet_below (by kernel_rfl) (by kernel_rfl) ?_
          repeat (first | go_big_quiet_step (first | (go_at_call 84; with_reducible exact Calls.regrown_of (HX1.out _)) | (go_at_call 75; with_reducible exact Calls.regrown_of (HX2.out _))))
          refine wpQuiet_nil ?_
          intro _ hw'
          obtain ⟨⟨dq, osq⟩, hw''⟩ := hw'
          subst hw''
          have J := below_regrown wr dq osq
          generalize grow (redrawn wr dq) osq = v5 at J ⊢
          go_wp2_with fail
          go_ret
          exact ⟨by rw [e1.out]; rfl, bw_trans KW J⟩
      · have e1 : Hid (mayI o hs r p q = false) := by
          change _ = _
          rw [e0.out, Bool.eq_false_iff]
          intro hc
          have h9 := HA.out.1 hc k hlt
          rw [HH.out] at h9; simp at h9
        go_wp2_with fail
        refine wp_region_quiet_below (by kernel_rfl) (by kernel_rfl) ?_
        repeat (first | go_big_quiet_step (first | (go_at_call 84; with_reducible exact Calls.regrown_of (HX1.out _))))
        refine wpQuiet_nil ?_
        intro _ hw'
        obtain ⟨⟨dq, osq⟩, hw''⟩ := hw'
        subst hw''
        have J := below_regrown wr dq osq
        generalize grow (redrawn wr dq) osq = v5 at J ⊢
        go_wp2_with fail
        go_ret
        exact ⟨by rw [e1.out]; rfl, bw_trans KW J⟩
    case neg =>
      obtain rfl : len = k := by omega
      have e1 : Hid (mayI o hs r p q = true) := by change _ = _; rw [e0.out]; exact HA.out.2 HB.out
      clear HA HC HB
      go_wp2_with fail
      go_ret
      exact ⟨by rw [e1.out]; rfl, KW⟩
end Go.Proofs.YtmdjhoknlplecaaGreatDoor
namespace Go.Proofs.YtmdjhoknlplecaaGreatDoor
open Go.RowKit Go.Sort

set_option maxHeartbeats 1000000 in
theorem sBeside_ok (p q : P2) (w : World) (hp : ptB p.1 p.2 = true) (hq : ptB q.1 q.2 = true) :
    Calls Tryz.prog 45 #[.agg #[.int .i64 p.1, .int .i64 p.2], .agg #[.int .i64 q.1, .int .i64 q.2]] w fun e W' => e = .returned (.bool (decide (dt p.1 p.2 q.1 q.2 q.1 q.2 = 1))) ∧ Below w.heap.size w W' := by
  have hc := fun V => sDot_any _ _ _ _ _ _ V hp hq hq
  generalize dt p.1 p.2 q.1 q.2 q.1 q.2 = z at *
  go_enter Tryz.func45, Tryz.ntmps45
  go_wp2_with fail
  refine (hc _).mono ?_
  rintro e v ⟨rfl, J⟩
  go_wp2_with fail
  go_ret
  exact ⟨by congr 1, bw_trans (by repeat (first | exact bw_refl _ | assumption | apply bw_drewN | apply bw_drew | apply bw_alloc | refine bw_set ?_ (by simp) _)) J⟩
set_option maxRecDepth 100000 in
set_option maxHeartbeats 4000000 in
theorem sToolMay_any (a ah : Option Addr) (la ca nh ch : Nat) (o : List P2) (hs : List (List P2)) (r : Int) (p q : P2) (w : World) (h : Plt w a la ah nh o hs) :
    Calls Tryz.prog 17 #[.agg #[.slice a la ca, .slice ah nh ch], .int .i64 r, .agg #[.int .i64 p.1, .int .i64 p.2], .agg #[.int .i64 q.1, .int .i64 q.2]] w fun e W' => e = .returned (.bool (mayV o hs r p q)) ∧ Below w.heap.size w W' := by
  obtain ⟨W, hW, BW, TP, T, U⟩ := boxes3 w (.cells #[.slice a la ca, .slice ah nh ch] 33) (.cells #[.int .i64 p.1, .int .i64 p.2] 35) (.cells #[.int .i64 q.1, .int .i64 q.2] 35)
  have hh := h.below BW
  have zP := blk_lt TP
  have zT := blk_lt T
  have zU := blk_lt U
  have hOk := fun d os => sPlateOk_any a ah la ca nh ch o hs _ (hh.below (below_regrown W d os))
  have hIn := fun V => in_any r 1 9 V
  rw [inR_r] at hIn
  have hPt := fun V => sPt_raw p V
  have hPt2 := fun V => sPt_raw q V
  obtain ⟨t0, t1⟩ := reg_2 TP
  obtain ⟨u0, u1⟩ := reg_2 T
  obtain ⟨x0, x1⟩ := reg_2 U
  have HO : Hid (∀ d os, Calls Tryz.prog 20 #[.agg #[.slice a la ca, .slice ah nh ch]] (grow (redrawn W d) os) fun e W' => e = .returned (.bool (plV o hs)) ∧ Below (grow (redrawn W d) os).heap.size (grow (redrawn W d) os) W') := hOk
  have HI : Hid (∀ V, Calls Tryz.prog 35 #[.int .i64 r, .int .i64 1, .int .i64 9] V fun e W' => e = .returned (.bool (rV r)) ∧ Below V.heap.size V W') := fun V => (hIn V).mono fun _ _ h => ⟨h.1, h.2 ▸ bw_refl _⟩
  have HQ : Hid (∀ V, Calls Tryz.prog 21 #[.agg #[.int .i64 p.1, .int .i64 p.2]] V fun e W' => e = .returned (.bool (ptB p.1 p.2)) ∧ Below V.heap.size V W') := hPt
  have HQ2 : Hid (∀ V, Calls Tryz.prog 21 #[.agg #[.int .i64 q.1, .int .i64 q.2]] V fun e W' => e = .returned (.bool (ptB q.1 q.2)) ∧ Below V.heap.size V W') := hPt2
  clear hOk hIn hPt hPt2
  cases hv : plV o hs
  · have e1 : Hid (mayV o hs r p q = false) := by change _ = _; unfold mayV; rw [hv, Bool.and_false]; try rfl
    try rw [hv] at HO
    go_enter Tryz.func17, Tryz.ntmps17
    go_upto_region 1 with fail
    rw [← hW]
    clear hW
    refine wp_region_quiet_below (by kernel_rfl) (by kernel_rfl) ?_
    repeat (first | go_big_quiet_step (first | (go_at_call 20; with_reducible exact Calls.regrown_of (HO.out _ _))))
    refine wpQuiet_nil ?_
    intro _ hw'
    obtain ⟨⟨dq, osq⟩, hw''⟩ := hw'
    subst hw''
    have J := below_regrown W dq osq
    generalize grow (redrawn W dq) osq = v at J ⊢
    go_wp2_with fail
    go_ret
    exact ⟨by rw [e1.out]; first | rfl | simp, bw_trans BW J⟩
  rw [hv] at HO
  cases hr : rV r
  · have e1 : Hid (mayV o hs r p q = false) := by change _ = _; unfold mayV; rw [hr]; try rfl
    try rw [hr] at HI
    go_enter Tryz.func17, Tryz.ntmps17
    go_upto_region 1 with fail
    rw [← hW]
    clear hW
    refine wp_region_quiet_below (by kernel_rfl) (by kernel_rfl) ?_
    repeat (first | go_big_quiet_step (first | (go_at_call 20; with_reducible exact Calls.regrown_of (HO.out _ _)) | (go_at_call 35; with_reducible exact Calls.regrown_of (HI.out _))))
    refine wpQuiet_nil ?_
    intro _ hw'
    obtain ⟨⟨dq, osq⟩, hw''⟩ := hw'
    subst hw''
    have J := below_regrown W dq osq
    generalize grow (redrawn W dq) osq = v at J ⊢
    go_wp2_with fail
    go_ret
    exact ⟨by rw [e1.out]; first | rfl | simp, bw_trans BW J⟩
  rw [hr] at HI
  cases hp : ptB p.1 p.2
  · have e1 : Hid (mayV o hs r p q = false) := by change _ = _; unfold mayV; rw [hr, hv, hp]; try rfl
    try rw [hp] at HQ
    go_enter Tryz.func17, Tryz.ntmps17
    go_upto_region 1 with fail
    rw [← hW]
    clear hW
    refine wp_region_quiet_below (by kernel_rfl) (by kernel_rfl) ?_
    repeat (first | go_big_quiet_step (first | (go_at_call 20; with_reducible exact Calls.regrown_of (HO.out _ _)) | (go_at_call 35; with_reducible exact Calls.regrown_of (HI.out _)) | (go_at_call 21; with_reducible exact Calls.regrown_of (HQ.out _))))
    refine wpQuiet_nil ?_
    intro _ hw'
    obtain ⟨⟨dq, osq⟩, hw''⟩ := hw'
    subst hw''
    have J := below_regrown W dq osq
    generalize grow (redrawn W dq) osq = v at J ⊢
    go_wp2_with fail
    go_ret
    exact ⟨by rw [e1.out]; first | rfl | simp, bw_trans BW J⟩
  rw [hp] at HQ
  cases hq : ptB q.1 q.2
  · have e1 : Hid (mayV o hs r p q = false) := by change _ = _; unfold mayV; rw [hr, hv, hp, hq]; try rfl
    try rw [hq] at HQ2
    go_enter Tryz.func17, Tryz.ntmps17
    go_upto_region 1 with fail
    rw [← hW]
    clear hW
    refine wp_region_quiet_below (by kernel_rfl) (by kernel_rfl) ?_
    repeat (first | go_big_quiet_step (first | (go_at_call 20; with_reducible exact Calls.regrown_of (HO.out _ _)) | (go_at_call 35; with_reducible exact Calls.regrown_of (HI.out _)) | (go_at_call 21; with_reducible exact Calls.regrown_of (HQ.out _)) | (go_at_call 21; with_reducible exact Calls.regrown_of (HQ2.out _))))
    refine wpQuiet_nil ?_
    intro _ hw'
    obtain ⟨⟨dq, osq⟩, hw''⟩ := hw'
    subst hw''
    have J := below_regrown W dq osq
    generalize grow (redrawn W dq) osq = v at J ⊢
    go_wp2_with fail
    go_ret
    exact ⟨by rw [e1.out]; first | rfl | simp, bw_trans BW J⟩
  rw [hq] at HQ2
  have HB : Hid (∀ V, Calls Tryz.prog 45 #[.agg #[.int .i64 p.1, .int .i64 p.2], .agg #[.int .i64 q.1, .int .i64 q.2]] V fun e W' => e = .returned (.bool (decide (dt p.1 p.2 q.1 q.2 q.1 q.2 = 1))) ∧ Below V.heap.size V W') := fun V => sBeside_ok p q V hp hq
  cases hd : decide (dt p.1 p.2 q.1 q.2 q.1 q.2 = 1)
  · have e1 : Hid (mayV o hs r p q = false) := by change _ = _; unfold mayV; rw [hr, hv, hp, hq, hd]; try rfl
    try rw [hd] at HB
    go_enter Tryz.func17, Tryz.ntmps17
    go_upto_region 1 with fail
    rw [← hW]
    clear hW
    refine wp_region_quiet_below (by kernel_rfl) (by kernel_rfl) ?_
    repeat (first | go_big_quiet_step (first | (go_at_call 20; with_reducible exact Calls.regrown_of (HO.out _ _)) | (go_at_call 35; with_reducible exact Calls.regrown_of (HI.out _)) | (go_at_call 21; with_reducible exact Calls.regrown_of (HQ.out _)) | (go_at_call 21; with_reducible exact Calls.regrown_of (HQ2.out _)) | (go_at_call 45; with_reducible exact Calls.regrown_of (HB.out _))))
    refine wpQuiet_nil ?_
    intro _ hw'
    obtain ⟨⟨dq, osq⟩, hw''⟩ := hw'
    subst hw''
    have J := below_regrown W dq osq
    generalize grow (redrawn W dq) osq = v at J ⊢
    go_wp2_with fail
    go_ret
    exact ⟨by rw [e1.out]; first | rfl | simp, bw_trans BW J⟩
  rw [hd] at HB
  have e1 : Hid (mayV o hs r p q = mayI o hs r p q) := by change _ = _; unfold mayV; rw [hr, hv, hp, hq, hd]; rfl
  have hd' : dt p.1 p.2 q.1 q.2 q.1 q.2 = 1 := of_decide_eq_true hd
  have n3 := plE_ne hv
  have n24 := plE_len o hs
  obtain ⟨N, hN⟩ : ∃ N, (plE o hs).length = N := ⟨_, rfl⟩
  have hOk2 : ∀ V, Below W.heap.size W V → Calls Tryz.prog 20 #[.agg #[.slice a la ca, .slice ah nh ch]] V fun e W' => e = .returned (.bool true) ∧ Below V.heap.size V W' := fun V hV => by have := sPlateOk_any a ah la ca nh ch o hs V (hh.below hV); rwa [hv] at this
  have hE : ∀ V, Below W.heap.size W V → Calls Tryz.prog 37 #[.agg #[.slice a la ca, .slice ah nh ch]] V _ := fun V hV => l11Edges_ok a ah la ca nh ch o hs hv V (hh.below hV)
  have hX : ∀ g c V, Below W.heap.size W V → SRow V g (plE o hs) → g < V.heap.size → Calls Tryz.prog 46 #[.agg #[.slice a la ca, .slice ah nh ch], .slice (some ⟨g, 0, none⟩) N c, .int .i64 r, .agg #[.int .i64 p.1, .int .i64 p.2], .agg #[.int .i64 q.1, .int .i64 q.2]] V fun e W' => e = .returned (.bool (mayV o hs r p q)) ∧ Below V.heap.size V W' := fun g c V hV hR hg => by
    have := sMayI_ok a ah la ca nh ch o hs g N c r p q V (hh.below hV) hv hr hp hq hd' hR hg hN
    rw [e1.out]; exact this
  have hS0 : (fun w' : World => (w'.cell? ⟨w.heap.size, 0, none⟩ = some (.slice a la ca) ∧ w'.cell? ⟨w.heap.size, 1, none⟩ = some (.slice ah nh ch)) ∧ (w'.cell? ⟨w.heap.size + 1, 0, none⟩ = some (.int .i64 p.1) ∧ w'.cell? ⟨w.heap.size + 1, 1, none⟩ = some (.int .i64 p.2)) ∧ (w'.cell? ⟨w.heap.size + 2, 0, none⟩ = some (.int .i64 q.1) ∧ w'.cell? ⟨w.heap.size + 2, 1, none⟩ = some (.int .i64 q.2))) W.drew := ⟨blk_2 TP, blk_2 T, blk_2 U⟩
  have H := bw_drew (bw_refl W)
  clear HO t0 t1 u0 u1 x0 x1
  go_enter Tryz.func17, Tryz.ntmps17
  go_upto_region 1 with fail
  rw [← hW]
  clear hW
  go_region_held3 (fun w' : World => (w'.cell? ⟨w.heap.size, 0, none⟩ = some (.slice a la ca) ∧ w'.cell? ⟨w.heap.size, 1, none⟩ = some (.slice ah nh ch)) ∧ (w'.cell? ⟨w.heap.size + 1, 0, none⟩ = some (.int .i64 p.1) ∧ w'.cell? ⟨w.heap.size + 1, 1, none⟩ = some (.int .i64 p.2)) ∧ (w'.cell? ⟨w.heap.size + 2, 0, none⟩ = some (.int .i64 q.1) ∧ w'.cell? ⟨w.heap.size + 2, 1, none⟩ = some (.int .i64 q.2)))
    (first | exact ⟨⟨cellB J hS0.1.1, cellB J hS0.1.2⟩, ⟨cellB J hS0.2.1.1, cellB J hS0.2.1.2⟩, ⟨cellB J hS0.2.2.1, cellB J hS0.2.2.2⟩⟩ | exact hS0)
    (first
      | (go_at_call 20; refine (hOk2 _ H).mono ?_; rintro e w2 ⟨rfl, J⟩; replace H := bw_trans H J; replace hS0 : (fun w' : World => (w'.cell? ⟨w.heap.size, 0, none⟩ = some (.slice a la ca) ∧ w'.cell? ⟨w.heap.size, 1, none⟩ = some (.slice ah nh ch)) ∧ (w'.cell? ⟨w.heap.size + 1, 0, none⟩ = some (.int .i64 p.1) ∧ w'.cell? ⟨w.heap.size + 1, 1, none⟩ = some (.int .i64 p.2)) ∧ (w'.cell? ⟨w.heap.size + 2, 0, none⟩ = some (.int .i64 q.1) ∧ w'.cell? ⟨w.heap.size + 2, 1, none⟩ = some (.int .i64 q.2))) w2 := ⟨⟨cellB J hS0.1.1, cellB J hS0.1.2⟩, ⟨cellB J hS0.2.1.1, cellB J hS0.2.1.2⟩, ⟨cellB J hS0.2.2.1, cellB J hS0.2.2.2⟩⟩)
      | (go_at_call 35; refine (HI.out _).mono ?_; rintro e w2 ⟨rfl, J⟩; replace H := bw_trans H J; replace hS0 : (fun w' : World => (w'.cell? ⟨w.heap.size, 0, none⟩ = some (.slice a la ca) ∧ w'.cell? ⟨w.heap.size, 1, none⟩ = some (.slice ah nh ch)) ∧ (w'.cell? ⟨w.heap.size + 1, 0, none⟩ = some (.int .i64 p.1) ∧ w'.cell? ⟨w.heap.size + 1, 1, none⟩ = some (.int .i64 p.2)) ∧ (w'.cell? ⟨w.heap.size + 2, 0, none⟩ = some (.int .i64 q.1) ∧ w'.cell? ⟨w.heap.size + 2, 1, none⟩ = some (.int .i64 q.2))) w2 := ⟨⟨cellB J hS0.1.1, cellB J hS0.1.2⟩, ⟨cellB J hS0.2.1.1, cellB J hS0.2.1.2⟩, ⟨cellB J hS0.2.2.1, cellB J hS0.2.2.2⟩⟩)
      | (go_at_call 21; with_reducible refine (HQ.out _).mono ?_; rintro e w2 ⟨rfl, J⟩; replace H := bw_trans H J; replace hS0 : (fun w' : World => (w'.cell? ⟨w.heap.size, 0, none⟩ = some (.slice a la ca) ∧ w'.cell? ⟨w.heap.size, 1, none⟩ = some (.slice ah nh ch)) ∧ (w'.cell? ⟨w.heap.size + 1, 0, none⟩ = some (.int .i64 p.1) ∧ w'.cell? ⟨w.heap.size + 1, 1, none⟩ = some (.int .i64 p.2)) ∧ (w'.cell? ⟨w.heap.size + 2, 0, none⟩ = some (.int .i64 q.1) ∧ w'.cell? ⟨w.heap.size + 2, 1, none⟩ = some (.int .i64 q.2))) w2 := ⟨⟨cellB J hS0.1.1, cellB J hS0.1.2⟩, ⟨cellB J hS0.2.1.1, cellB J hS0.2.1.2⟩, ⟨cellB J hS0.2.2.1, cellB J hS0.2.2.2⟩⟩)
      | (go_at_call 21; refine (HQ2.out _).mono ?_; rintro e w2 ⟨rfl, J⟩; replace H := bw_trans H J; replace hS0 : (fun w' : World => (w'.cell? ⟨w.heap.size, 0, none⟩ = some (.slice a la ca) ∧ w'.cell? ⟨w.heap.size, 1, none⟩ = some (.slice ah nh ch)) ∧ (w'.cell? ⟨w.heap.size + 1, 0, none⟩ = some (.int .i64 p.1) ∧ w'.cell? ⟨w.heap.size + 1, 1, none⟩ = some (.int .i64 p.2)) ∧ (w'.cell? ⟨w.heap.size + 2, 0, none⟩ = some (.int .i64 q.1) ∧ w'.cell? ⟨w.heap.size + 2, 1, none⟩ = some (.int .i64 q.2))) w2 := ⟨⟨cellB J hS0.1.1, cellB J hS0.1.2⟩, ⟨cellB J hS0.2.1.1, cellB J hS0.2.1.2⟩, ⟨cellB J hS0.2.2.1, cellB J hS0.2.2.2⟩⟩)
      | (go_at_call 45; refine (HB.out _).mono ?_; rintro e w2 ⟨rfl, J⟩; replace H := bw_trans H J; replace hS0 : (fun w' : World => (w'.cell? ⟨w.heap.size, 0, none⟩ = some (.slice a la ca) ∧ w'.cell? ⟨w.heap.size, 1, none⟩ = some (.slice ah nh ch)) ∧ (w'.cell? ⟨w.heap.size + 1, 0, none⟩ = some (.int .i64 p.1) ∧ w'.cell? ⟨w.heap.size + 1, 1, none⟩ = some (.int .i64 p.2)) ∧ (w'.cell? ⟨w.heap.size + 2, 0, none⟩ = some (.int .i64 q.1) ∧ w'.cell? ⟨w.heap.size + 2, 1, none⟩ = some (.int .i64 q.2))) w2 := ⟨⟨cellB J hS0.1.1, cellB J hS0.1.2⟩, ⟨cellB J hS0.2.1.1, cellB J hS0.2.1.2⟩, ⟨cellB J hS0.2.2.1, cellB J hS0.2.2.2⟩⟩)
      | (go_at_call 37; refine (hE _ H).mono ?_; rintro e w2 ⟨v, rfl, ho, J⟩; obtain ⟨g, c, rfl, hg, hR⟩ := row_of_owns' ho (by omega); rw [hN]; replace H := bw_trans H J; replace hS0 : (fun w' : World => (w'.cell? ⟨w.heap.size, 0, none⟩ = some (.slice a la ca) ∧ w'.cell? ⟨w.heap.size, 1, none⟩ = some (.slice ah nh ch)) ∧ (w'.cell? ⟨w.heap.size + 1, 0, none⟩ = some (.int .i64 p.1) ∧ w'.cell? ⟨w.heap.size + 1, 1, none⟩ = some (.int .i64 p.2)) ∧ (w'.cell? ⟨w.heap.size + 2, 0, none⟩ = some (.int .i64 q.1) ∧ w'.cell? ⟨w.heap.size + 2, 1, none⟩ = some (.int .i64 q.2))) w2 := ⟨⟨cellB J hS0.1.1, cellB J hS0.1.2⟩, ⟨cellB J hS0.2.1.1, cellB J hS0.2.1.2⟩, ⟨cellB J hS0.2.2.1, cellB J hS0.2.2.2⟩⟩)
      | (go_at_call 46; refine (hX g c _ H hR hg).mono ?_; rintro e w2 ⟨rfl, J⟩; replace H := bw_trans H J; replace hS0 : (fun w' : World => (w'.cell? ⟨w.heap.size, 0, none⟩ = some (.slice a la ca) ∧ w'.cell? ⟨w.heap.size, 1, none⟩ = some (.slice ah nh ch)) ∧ (w'.cell? ⟨w.heap.size + 1, 0, none⟩ = some (.int .i64 p.1) ∧ w'.cell? ⟨w.heap.size + 1, 1, none⟩ = some (.int .i64 p.2)) ∧ (w'.cell? ⟨w.heap.size + 2, 0, none⟩ = some (.int .i64 q.1) ∧ w'.cell? ⟨w.heap.size + 2, 1, none⟩ = some (.int .i64 q.2))) w2 := ⟨⟨cellB J hS0.1.1, cellB J hS0.1.2⟩, ⟨cellB J hS0.2.1.1, cellB J hS0.2.1.2⟩, ⟨cellB J hS0.2.2.1, cellB J hS0.2.2.2⟩⟩))
  all_goals go_wp2_with fail
  all_goals go_ret
  all_goals exact ⟨by first | rfl | simp, bw_trans BW H⟩
end Go.Proofs.YtmdjhoknlplecaaGreatDoor
namespace Go.Proofs.YtmdjhoknlplecaaGreatDoor
open Go.RowKit Go.Sort

theorem cellAl {W : World} {o : Obj} {a : Addr} {v : Value} (h : W.cell? a = some v) : (W.alloc o).cell? a = some v := cellB (bw_alloc (bw_refl _) o) h
theorem actFn {a : Act} {f : (Nat → Value) → Act} (h : f (fun n => a.tmps.toList.getD n undef) = a) : ∃ v, a = f v := ⟨_, h.symm⟩
theorem anyH_mono {P : Program} {md : Region.Mode} {ops : Array Oper} {Q : Exit → Act → World → Prop} {S S' : World → Prop} (h : ∀ w, S' w → S w) : ∀ (fuel : Nat) (listed : Array Bool) (a : Act) (w : World), wpAnyH P md ops Q S' fuel listed a w → wpAnyH P md ops Q S fuel listed a w
  | 0, _, _, _, hh => hh
  | fuel + 1, _, _, _, hh => ⟨hh.1, fun i hi => wpOp_mono (fun a' w' h' => ⟨h w' h'.1, anyH_mono h fuel _ a' w' h'.2⟩) (hh.2 i hi)⟩
theorem cellDr {W : World} {a : Addr} {v : Value} (h : W.cell? a = some v) : W.drew.cell? a = some v := h

set_option maxRecDepth 100000 in
set_option maxHeartbeats 40000000 in
theorem drawToolMay_any {a : Option Addr} {len0 cap : Nat} {zs : List Int} (w0 w : World) (h : IsRow .u8 w0 a len0 cap zs) (hb : Below w0.heap.size w0 w) :
    Calls Tryz.prog 27 #[.slice a len0 cap] w fun e w' => ∃ (o : LoopT) (hv : Value) (hs : List LoopT) (t x y x2 y2 : Int), e = .returned (.tuple #[.agg #[o.v, hv], .int .i64 t, .agg #[.int .i64 x, .int .i64 y], .agg #[.int .i64 x2, .int .i64 y2]]) ∧ (-1 ≤ t ∧ t ≤ 10) ∧ PlD w.heap.size w' o hv hs ∧ (hs.length ≤ 3 ∧ Seat hv) ∧ Below w.heap.size w w' := by
  have hmx : Tryz.prog.follows .mixedOrders = true := by kernel_rfl
  obtain ⟨W, hW, BW, T, T2, T3⟩ := boxes3 w (.cells #[.slice none 0 0, .slice none 0 0] 33) (.cells #[.int .i64 0, .int .i64 0] 35) (.cells #[.int .i64 0, .int .i64 0] 35)
  go_enter Tryz.func27, Tryz.ntmps27
  go_wp2_with fail
  rw [← hW]
  clear hW
  refine (open_rd w0 _ h (bw_trans hb BW)).mono ?_
  rintro e w1 ⟨len, rfl, R, hb1⟩
  have zT := blk_lt T
  have zT2 := blk_lt T2
  have zT3 := blk_lt T3
  replace T := keep hb1 T
  replace T2 := keep hb1 T2
  replace T3 := keep hb1 T3
  have K := bw_trans BW hb1
  have z1 := hb1.size
  have zr := R.lt
  clear hb1 BW
  go_wp2_with fail
  refine (l71Stand_any 0 a len cap _ _ (by omega) R).mono ?_
  clear R
  rintro e w3 ⟨⟨g, n, c, l⟩, hv, hs, t, x, y, k2, he, ht, hPB, hD, ⟨hs3, hst⟩, hk2, R, O⟩
  obtain rfl : e = .returned (.tuple #[.agg #[.slice (some ⟨g, 0, none⟩) n c, hv], .int .i64 t, .agg #[.int .i64 x, .int .i64 y]]) := he
  replace T := keepO O T (by omega)
  replace T2 := keepO O T2 (by omega)
  replace T3 := keepO O T3 (by omega)
  replace K := K.trans (O.below' (B := w.heap.size) (by omega) (by have := K.size; omega))
  have z3 := O.size
  clear O
  obtain ⟨gh, ch, rfl⟩ : ∃ gh ch, hv = .slice (some ⟨gh, 0, none⟩) hs.length ch := own_seat hD.2.2.1 hst
  obtain ⟨N, hNN⟩ : ∃ N, hs.length = N := ⟨_, rfl⟩
  have HN : Hid (hs.length = N) := hNN
  rw [hNN]
  clear hNN
  obtain ⟨W4, hW4, B4, TP, TA⟩ := boxes2 w3 (.cells #[.slice (some ⟨g, 0, none⟩) n c, .slice (some ⟨gh, 0, none⟩) N ch] 33) (.cells #[.int .i64 x, .int .i64 y] 35)
  have P4 : Only W.heap.size w3 W4 := Only.of_below B4
  have zr3 : W.heap.size < w3.heap.size := R.lt
  go_wp2_with fail
  rw [← hW4]
  clear hW4
  refine (l71Pt_any k2 a len cap _ _ (by omega) (R.below B4)).mono ?_
  clear R
  rintro e w5 ⟨x2, y2, k3, rfl, hPB2, hk3, R, O⟩
  replace TP := keepO O TP (by omega)
  replace TA := keepO O TA (by omega)
  replace P4 := P4.trans O
  have z5 := O.size
  have z5' := P4.size
  have zTA := blk_lt TA
  clear O
  have R5 := R.alloc (.cells #[.int .i64 x2, .int .i64 y2] 35)
  have A5 := heap_new w5 (.cells #[.int .i64 x2, .int .i64 y2] 35)
  have Q5 := (Only.refl W.heap.size w5).alloc (.cells #[.int .i64 x2, .int .i64 y2] 35)
  clear R
  go_wp2_with fail
  obtain ⟨Q1, HQ1⟩ : ∃ Q1 : Exit → Act → World → Prop, Hid (Q1 = (fun e a' w' => e = .exit 0 ∧ (∃ v : Nat → Value, a' = { tmps := #[Value.slice a len0 cap, undef, .pointer (some ⟨w.heap.size, 0, none⟩), .int .i64 0, .pointer (some ⟨w.heap.size + 1, 0, none⟩), .pointer (some ⟨w.heap.size + 1 + 1, 0, none⟩), .pointer (some ⟨W.heap.size, 0, none⟩), .pointer (some ⟨w3.heap.size, 0, none⟩), .int .i64 t, .pointer (some ⟨w3.heap.size + 1, 0, none⟩), .pointer (some ⟨w5.heap.size, 0, none⟩), v 11, v 12, v 13, v 14, v 15, v 16, v 17, v 18, v 19, v 20, v 21, v 22, v 23, v 24, v 25, v 26, v 27, v 28, v 29, v 30, v 31, v 32, v 33, v 34, v 35, v 36, v 37, v 38, v 39, v 40, v 41, v 42, v 43, v 44, v 45, v 46, v 47, v 48, v 49, v 50, v 51, v 52, v 53, v 54, v 55, v 56, v 57, v 58, undef, undef, undef, undef, undef, undef, undef, undef, undef, undef, undef, undef, undef, undef, undef, undef, undef, undef, undef, undef, undef, undef, undef, undef, undef, undef, undef, undef, undef, undef, undef, undef, undef, undef, undef, undef, undef, undef, undef, undef, undef, undef, undef, undef, undef, undef, undef, undef, undef, undef, undef, undef, undef, undef, undef, undef, undef, undef, undef, undef, undef], defers := [] }) ∧ ∃ (kk : Nat) (x2 y2 : Int), kk ≤ k3 + 40 ∧ Rd w' W.heap.size kk a len cap ∧ Only W.heap.size w5 w' ∧ w'.heap[w5.heap.size]? = some (.cells #[.int .i64 x2, .int .i64 y2] 35))) := ⟨_, rfl⟩
  refine Code.wp_mono (Q := Q1) ?_ ?_
  case refine_1 =>
    intro e a' w' hq1
    rw [HQ1.out] at hq1
    clear HQ1
    obtain ⟨rfl, ⟨v, rfl⟩, kz, x2, y2, hkz, R, O, A⟩ := hq1
    simp only [Exit.inBlock, ↓reduceIte]
    obtain ⟨p0, p1⟩ := blk_2 (keepO O TP (by omega))
    obtain ⟨c0, c1⟩ := blk_2 (keepO O TA (by omega))
    obtain ⟨d0, d1⟩ := blk_2 A
    have zO := O.size
    have hPy : Plt w' (some ⟨g, 0, none⟩) n (some ⟨gh, 0, none⟩) N l (hs.map LoopT.l) := by have h4 := (hD.only P4 (by omega)).only O (by omega); have e := HN.out; subst e; exact h4.plt
    have hF := sToolMay_any (some ⟨g, 0, none⟩) (some ⟨gh, 0, none⟩) n c N ch l (hs.map LoopT.l) t (x, y) (x2, y2) w' hPy
    obtain ⟨bf, hbf⟩ : ∃ b, mayV l (hs.map LoopT.l) t (x, y) (x2, y2) = b := ⟨_, rfl⟩
    rw [hbf] at hF
    clear hbf hPy
    go_wp2_with fail
    refine hF.mono ?_
    rintro e yz ⟨rfl, J⟩
    replace TP := keep J (keepO O TP (by omega))
    replace TA := keep J (keepO O TA (by omega))
    replace A := keep J A
    replace R := R.below J
    replace O := P4.trans (O.trans (Only.of_below J))
    clear p0 p1 c0 c1 d0 d1 hF J P4 zO
    cases bf
    case false =>
      go_wp2_with fail
      obtain ⟨Q2, HQ2⟩ : ∃ Q2 : Exit → Act → World → Prop, Hid (Q2 = (fun e a' w' => e = .exit 2 ∧ (∃ (t' : Int), (-1 ≤ t' ∧ t' ≤ 10) ∧ ∃ (v : Nat → Value), a' = { tmps := #[Value.slice a len0 cap, undef, .pointer (some ⟨w.heap.size, 0, none⟩), .int .i64 0, .pointer (some ⟨w.heap.size + 1, 0, none⟩), .pointer (some ⟨w.heap.size + 1 + 1, 0, none⟩), .pointer (some ⟨W.heap.size, 0, none⟩), .pointer (some ⟨w3.heap.size, 0, none⟩), .int .i64 t', .pointer (some ⟨w3.heap.size + 1, 0, none⟩), .pointer (some ⟨w5.heap.size, 0, none⟩), v 11, v 12, v 13, v 14, v 15, v 16, v 17, v 18, v 19, v 20, v 21, v 22, v 23, v 24, v 25, v 26, v 27, v 28, v 29, v 30, v 31, v 32, v 33, v 34, v 35, v 36, v 37, v 38, v 39, v 40, v 41, v 42, v 43, v 44, v 45, v 46, v 47, v 48, v 49, v 50, v 51, v 52, v 53, v 54, v 55, v 56, v 57, v 58, v 59, v 60, v 61, v 62, v 63, v 64, v 65, v 66, v 67, v 68, v 69, v 70, v 71, v 72, v 73, v 74, v 75, v 76, v 77, v 78, v 79, v 80, v 81, v 82, v 83, v 84, v 85, v 86, v 87, v 88, v 89, v 90, v 91, v 92, v 93, v 94, v 95, v 96, v 97, v 98, v 99, v 100, v 101, v 102, v 103, v 104, v 105, v 106, v 107, v 108, v 109, v 110, v 111, v 112, v 113, v 114, v 115, v 116, v 117, v 118, v 119], defers := [] }) ∧ ∃ (kk : Nat) (x1 y1 x2 y2 : Int), Rd w' W.heap.size kk a len cap ∧ Only W.heap.size w3 w' ∧ w'.heap[w3.heap.size]? = some (.cells #[.slice (some ⟨g, 0, none⟩) n c, .slice (some ⟨gh, 0, none⟩) N ch] 33 (0, 0)) ∧ w'.heap[w3.heap.size + 1]? = some (.cells #[.int .i64 x1, .int .i64 y1] 35) ∧ w'.heap[w5.heap.size]? = some (.cells #[.int .i64 x2, .int .i64 y2] 35))) := ⟨_, rfl⟩
      refine Code.wp_mono (Q := Q2) ?_ ?_
      case refine_1 =>
        intro e a' w' hq2
        rw [HQ2.out] at hq2
        clear HQ2
        obtain ⟨rfl, ⟨t', ht', v, rfl⟩, kk, x1, y1, x2, y2, R, O, TP, TA, A⟩ := hq2
        simp only [Exit.inBlock, ↓reduceIte]
        obtain ⟨p0, p1⟩ := blk_2 TP
        obtain ⟨c0, c1⟩ := blk_2 TA
        obtain ⟨d0, d1⟩ := blk_2 A
        have zO := O.size
        have zA := blk_lt A
        have B1 := keepO O T (by omega)
        have B2 := keepO O T2 (by omega)
        have B3 := keepO O T3 (by omega)
        obtain ⟨a0, a1, af0, af1⟩ := blk2 B1
        obtain ⟨b0, b1, bf0, bf1⟩ := blk2 B2
        obtain ⟨e0, e1, ef0, ef1⟩ := blk2 B3
        go_wp2_with fail
        go_region_held3 (fun w' : World => (w'.cell? ⟨w3.heap.size, 0, none⟩ = some (.slice (some ⟨g, 0, none⟩) n c) ∧ w'.cell? ⟨w3.heap.size, 1, none⟩ = some (.slice (some ⟨gh, 0, none⟩) N ch)) ∧ (w'.cell? ⟨w3.heap.size + 1, 0, none⟩ = some (.int .i64 x1) ∧ w'.cell? ⟨w3.heap.size + 1, 1, none⟩ = some (.int .i64 y1)) ∧ (w'.cell? ⟨w5.heap.size, 0, none⟩ = some (.int .i64 x2) ∧ w'.cell? ⟨w5.heap.size, 1, none⟩ = some (.int .i64 y2))) (first | with_reducible exact ⟨⟨cellDr p0, cellDr p1⟩, ⟨cellDr c0, cellDr c1⟩, cellDr d0, cellDr d1⟩ | with_reducible exact ⟨⟨cellDr (cellS2 p0 (by dsimp only; omega)), cellDr (cellS2 p1 (by dsimp only; omega))⟩, ⟨cellDr (cellS2 c0 (by dsimp only; omega)), cellDr (cellS2 c1 (by dsimp only; omega))⟩, cellDr (cellS2 d0 (by dsimp only; omega)), cellDr (cellS2 d1 (by dsimp only; omega))⟩ | with_reducible exact ⟨⟨cellDr (cellS2 (cellS2 p0 (by dsimp only; omega)) (by dsimp only; omega)), cellDr (cellS2 (cellS2 p1 (by dsimp only; omega)) (by dsimp only; omega))⟩, ⟨cellDr (cellS2 (cellS2 c0 (by dsimp only; omega)) (by dsimp only; omega)), cellDr (cellS2 (cellS2 c1 (by dsimp only; omega)) (by dsimp only; omega))⟩, cellDr (cellS2 (cellS2 d0 (by dsimp only; omega)) (by dsimp only; omega)), cellDr (cellS2 (cellS2 d1 (by dsimp only; omega)) (by dsimp only; omega))⟩ | with_reducible exact ⟨⟨cellDr (cellS2 (cellS2 (cellS2 p0 (by dsimp only; omega)) (by dsimp only; omega)) (by dsimp only; omega)), cellDr (cellS2 (cellS2 (cellS2 p1 (by dsimp only; omega)) (by dsimp only; omega)) (by dsimp only; omega))⟩, ⟨cellDr (cellS2 (cellS2 (cellS2 c0 (by dsimp only; omega)) (by dsimp only; omega)) (by dsimp only; omega)), cellDr (cellS2 (cellS2 (cellS2 c1 (by dsimp only; omega)) (by dsimp only; omega)) (by dsimp only; omega))⟩, cellDr (cellS2 (cellS2 (cellS2 d0 (by dsimp only; omega)) (by dsimp only; omega)) (by dsimp only; omega)), cellDr (cellS2 (cellS2 (cellS2 d1 (by dsimp only; omega)) (by dsimp only; omega)) (by dsimp only; omega))⟩ | go_keep) (fail)
        replace B3 : w'.heap[w.heap.size + 1 + 1]? = _ := B3
        go_wp2_with fail
        have B1' := set_oth (b := w.heap.size + 1 + 1) (i := 1) (v := .int .i64 y2) (set_oth (b := w.heap.size + 1 + 1) (i := 0) (v := .int .i64 x2) (set_oth (b := w.heap.size + 1) (i := 1) (v := .int .i64 y1) (set_oth (b := w.heap.size + 1) (i := 0) (v := .int .i64 x1) (setB2 (u0 := .slice (some ⟨g, 0, none⟩) n c) (u1 := .slice (some ⟨gh, 0, none⟩) N ch) B1) (by omega)) (by omega)) (by omega)) (by omega)
        have B2' := set_oth (b := w.heap.size + 1 + 1) (i := 1) (v := .int .i64 y2) (set_oth (b := w.heap.size + 1 + 1) (i := 0) (v := .int .i64 x2) (setB2 (u0 := .int .i64 x1) (u1 := .int .i64 y1) (set_oth (b := w.heap.size) (i := 1) (v := .slice (some ⟨gh, 0, none⟩) N ch) (set_oth (b := w.heap.size) (i := 0) (v := .slice (some ⟨g, 0, none⟩) n c) B2 (by omega)) (by omega))) (by omega)) (by omega)
        have B3' := setB2 (u0 := .int .i64 x2) (u1 := .int .i64 y2) (set_oth (b := w.heap.size + 1) (i := 1) (v := .int .i64 y1) (set_oth (b := w.heap.size + 1) (i := 0) (v := .int .i64 x1) (set_oth (b := w.heap.size) (i := 1) (v := .slice (some ⟨gh, 0, none⟩) N ch) (set_oth (b := w.heap.size) (i := 0) (v := .slice (some ⟨g, 0, none⟩) n c) B3 (by omega)) (by omega)) (by omega)) (by omega))
        obtain ⟨r0, r1, _, _⟩ := blk2 B1'
        obtain ⟨r2, r3, _, _⟩ := blk2 B2'
        obtain ⟨r4, r5, _, _⟩ := blk2 B3'
        have hDz := hD.only O (by omega)
        have hstz := hst
        rw [HN.out] at hDz hstz
        refine bodyPost_ret (v := .tuple #[.agg #[.slice (some ⟨g, 0, none⟩) n c, .slice (some ⟨gh, 0, none⟩) N ch], .int .i64 t', .agg #[.int .i64 x1, .int .i64 y1], .agg #[.int .i64 x2, .int .i64 y2]]) (by simp [results, Tryz.results27, go_sem, r0, r1, r2, r3, r4, r5]) rfl ?_
        refine ⟨⟨g, n, c, l⟩, _, hs, t', x1, y1, x2, y2, rfl, ht', ?_, ⟨hs3, hstz⟩, ?_⟩
        · exact ((((((((hDz.set (by omega) _).set (by omega) _).set (by omega) _).set (by omega) _).set (by omega) _).set (by omega) _).only (Only.drew (Only.refl W.heap.size _)) (by omega)).mono (by omega))
        · exact (((((((K.trans (O.below' (B := w.heap.size) (by omega) (by have := K.size; omega))).setCell (p := ⟨w.heap.size, 0, none⟩) (Nat.le_refl _) _).setCell (p := ⟨w.heap.size, 1, none⟩) (Nat.le_refl _) _).setCell (p := ⟨w.heap.size + 1, 0, none⟩) (Nat.le_succ _) _).setCell (p := ⟨w.heap.size + 1, 1, none⟩) (Nat.le_succ _) _).setCell (p := ⟨w.heap.size + 1 + 1, 0, none⟩) (by show w.heap.size ≤ w.heap.size + 1 + 1; omega) _).setCell (p := ⟨w.heap.size + 1 + 1, 1, none⟩) (by show w.heap.size ≤ w.heap.size + 1 + 1; omega) _).drew
      go_loopw [13, 8] (fun i tv wr => ∃ (m kk : Nat) (t' x1 y1 x2 y2 : Int), m ≤ 20 ∧ i = .int .i64 m ∧ tv = .int .i64 t' ∧ (-1 ≤ t' ∧ t' ≤ 10) ∧ kk ≤ kz + m * 10 ∧ PB x1 y1 ∧ Rd wr W.heap.size kk a len cap ∧ Only W.heap.size w3 wr ∧ wr.heap[w3.heap.size]? = some (.cells #[.slice (some ⟨g, 0, none⟩) n c, .slice (some ⟨gh, 0, none⟩) N ch] 33 (0, 0)) ∧ wr.heap[w3.heap.size + 1]? = some (.cells #[.int .i64 x1, .int .i64 y1] 35) ∧ wr.heap[w5.heap.size]? = some (.cells #[.int .i64 x2, .int .i64 y2] 35)) (fun i _ _ => 20 - (intOf i).toNat)
      case atStart => exact ⟨0, kz, t, x, y, _, _, by omega, rfl, rfl, ht, by omega, hPB, R, O, TP, TA, A⟩
      case round =>
        obtain ⟨m, kk, t', x1, y1, x2, y2, hm, rfl, rfl, ht', hkk, hPB1, R, O, TPz, TAz, Az⟩ := hrel
        have zO := O.size
        have zA := blk_lt Az
        have m0 : (0 : Int) ≤ (m : Int) := Int.natCast_nonneg _
        have m1 : (m : Int) ≤ 20 := by omega
        by_cases hlt : m < 20
        case pos =>
          have m2 : (m : Int) < 20 := by omega
          go_wp2_with fail
          refine (pick_rd 8 kk a len cap _ _ (by omega) (by omega) R).mono ?_
          clear R
          rintro e y1w ⟨q, rfl, qa, qb, R, O1⟩
          replace O := O.trans O1
          replace TPz := keepO O1 TPz (by omega)
          replace TAz := keepO O1 TAz (by omega)
          replace Az := keepO O1 Az (by omega)
          have z2' := O.size
          clear O1
          by_cases hq : 0 < q
          case neg =>
            go_wp2_with fail
            (rw [HQ2.out]; exact ⟨rfl, ⟨_, ht', actFn (by kernel_rfl)⟩, _, _, _, _, _, R, O, TPz, TAz, Az⟩)
          case pos =>
            obtain ⟨p0, p1⟩ := blk_2 TPz
            have hPy : Plt y1w (some ⟨g, 0, none⟩) n (some ⟨gh, 0, none⟩) N l (hs.map LoopT.l) := by have h4 := hD.only O (by omega); have e := HN.out; subst e; exact h4.plt
            have hO := sPlateOk_any (some ⟨g, 0, none⟩) (some ⟨gh, 0, none⟩) n c N ch l (hs.map LoopT.l) y1w hPy
            obtain ⟨bo, hbo⟩ : ∃ b, plV l (hs.map LoopT.l) = b := ⟨_, rfl⟩
            rw [hbo] at hO
            clear hbo hPy
            go_wp2_with fail
            refine hO.mono ?_
            rintro e y2w ⟨rfl, J⟩
            replace O := O.trans (Only.of_below J)
            replace TPz := keep J TPz
            replace TAz := keep J TAz
            replace Az := keep J Az
            replace R := R.below J
            have z3' := O.size
            clear p0 p1 hO J
            cases bo
            case false =>
              go_wp2_with fail
              (rw [HQ2.out]; exact ⟨rfl, ⟨_, ht', actFn (by kernel_rfl)⟩, _, _, _, _, _, R, O, TPz, TAz, Az⟩)
            case true =>
              obtain ⟨p0, p1⟩ := blk_2 TPz
              obtain ⟨c0, c1⟩ := blk_2 TAz
              obtain ⟨d0, d1⟩ := blk_2 Az
              have hPy : Plt y2w (some ⟨g, 0, none⟩) n (some ⟨gh, 0, none⟩) N l (hs.map LoopT.l) := by have h4 := hD.only O (by omega); have e := HN.out; subst e; exact h4.plt
              have hF := sToolMay_any (some ⟨g, 0, none⟩) (some ⟨gh, 0, none⟩) n c N ch l (hs.map LoopT.l) t' (x1, y1) (x2, y2) y2w hPy
              obtain ⟨bf, hbf⟩ : ∃ b, mayV l (hs.map LoopT.l) t' (x1, y1) (x2, y2) = b := ⟨_, rfl⟩
              rw [hbf] at hF
              clear hbf hPy
              go_wp2_with fail
              refine hF.mono ?_
              rintro e y3w ⟨rfl, J⟩
              replace O := O.trans (Only.of_below J)
              replace TPz := keep J TPz
              replace TAz := keep J TAz
              replace Az := keep J Az
              replace R := R.below J
              have z4' := O.size
              clear p0 p1 c0 c1 d0 d1 hF J
              cases bf
              case true =>
                go_wp2_with fail
                (rw [HQ2.out]; exact ⟨rfl, ⟨_, ht', actFn (by kernel_rfl)⟩, _, _, _, _, _, R, O, TPz, TAz, Az⟩)
              case false =>
                go_wp2_with fail
                refine (pick_rd 4 (kk + 1) a len cap _ _ (by omega) (by omega) R).mono ?_
                clear R
                rintro e y4 ⟨d, rfl, da, db, R, O1⟩
                replace O := O.trans O1
                replace TPz := keepO O1 TPz (by omega)
                replace TAz := keepO O1 TAz (by omega)
                replace Az := keepO O1 Az (by omega)
                have z5' := O.size
                clear O1
                go_wp2_with fail
                refine (pick_rd 2 (kk + 1 + 1) a len cap _ _ (by omega) (by omega) R).mono ?_
                clear R
                rintro e y5 ⟨q5, rfl, qa5, qb5, R, O1⟩
                replace O := O.trans O1
                replace TPz := keepO O1 TPz (by omega)
                replace TAz := keepO O1 TAz (by omega)
                replace Az := keepO O1 Az (by omega)
                have z6' := O.size
                clear O1
                have hw5 : IntKind.i64.wrap (1 + q5) = 1 + q5 := wrap_small (by omega) (by omega)
                go_wp2_with fail
                refine (l71Pt_any (kk + 1 + 1 + 1) a len cap _ _ (by omega) R).mono ?_
                clear R
                rintro e y6 ⟨x3, y3, k6, rfl, hPB3, hk6, R, O1⟩
                replace O := O.trans O1
                replace TPz := keepO O1 TPz (by omega)
                replace TAz := keepO O1 TAz (by omega)
                replace Az := keepO O1 Az (by omega)
                have z7' := O.size
                clear O1
                obtain ⟨c0, c1, cf0, cf1⟩ := blk2 TAz
                have hd : d = 0 ∨ d = 1 ∨ d = 2 ∨ d = 3 := by omega
                go_wp2_with fail
                replace TAz := setB2 (u0 := .int .i64 x3) (u1 := .int .i64 y3) TAz
                replace TPz := set_oth (b := w3.heap.size + 1) (i := 1) (v := .int .i64 y3) (set_oth (b := w3.heap.size + 1) (i := 0) (v := .int .i64 x3) TPz (by omega)) (by omega)
                replace Az := set_oth (b := w3.heap.size + 1) (i := 1) (v := .int .i64 y3) (set_oth (b := w3.heap.size + 1) (i := 0) (v := .int .i64 x3) Az (by omega)) (by omega)
                replace R := (R.set (p := ⟨w3.heap.size + 1, 0, none⟩) (by show W.heap.size < w3.heap.size + 1; omega) (.int .i64 x3)).set (p := ⟨w3.heap.size + 1, 1, none⟩) (by show W.heap.size < w3.heap.size + 1; omega) (.int .i64 y3)
                replace O := (O.set (p := ⟨w3.heap.size + 1, 0, none⟩) (.inr (Nat.le_succ _)) (.int .i64 x3)).set (p := ⟨w3.heap.size + 1, 1, none⟩) (.inr (Nat.le_succ _)) (.int .i64 y3)
                obtain ⟨Y, hY⟩ : ∃ Y, (y6.setCell ⟨w3.heap.size + 1, 0, none⟩ (.int .i64 x3)).setCell ⟨w3.heap.size + 1, 1, none⟩ (.int .i64 y3) = Y := ⟨_, rfl⟩
                rw [hY] at TAz TPz Az R O ⊢
                clear hY c0 c1 cf0 cf1 hw5
                obtain ⟨c0, c1⟩ := blk_2 TAz
                obtain ⟨d0, d1, df0, df1⟩ := blk2 Az
                have zd := blk_lt Az
                have zd1 : (w5.heap.size = Y.heap.size) = False := by simp; omega
                have zd2 : (w5.heap.size = Y.heap.size + 1) = False := by simp; omega
                have zc0 : w3.heap.size + 1 < Y.heap.size := by omega
                have hne9 : w3.heap.size + 1 ≠ w5.heap.size := by omega
                rcases hd with rfl | rfl | rfl | rfl
                · skip
                  go_wp2_with fail
                  have hS0 : (fun w' : World => (w'.cell? ⟨w3.heap.size + 1, 0, none⟩ = some (.int .i64 x3) ∧ w'.cell? ⟨w3.heap.size + 1, 1, none⟩ = some (.int .i64 y3))) Y.drew := ⟨cellDr c0, cellDr c1⟩
                  refine wp_region_noPanic ?_
                  refine wp_region_held (S := fun w' : World => (w'.cell? ⟨w3.heap.size + 1, 0, none⟩ = some (.int .i64 x3) ∧ w'.cell? ⟨w3.heap.size + 1, 1, none⟩ = some (.int .i64 y3))) hmx ?_
                  refine wpAnyH_take (i := 0) (v := .pointer (some ⟨w3.heap.size + 1, 0, none⟩)) rfl (by kernel_rfl) (by kernel_rfl) (by kernel_rfl) (fun _ _ _ h => h) (Or.inl ⟨by rfl, by rintro w' ⟨s1, s2⟩; go_simp⟩) hS0 ?_
                  refine wpAnyH_take (i := 1) (v := .int .i64 x3) rfl (by kernel_rfl) (by kernel_rfl) (by kernel_rfl) (fun _ _ _ h => h) (Or.inl ⟨by rfl, by rintro w' ⟨s1, s2⟩; go_simp⟩) hS0 ?_
                  refine wpAnyH_take (i := 3) (v := .int .i64 0) rfl (by kernel_rfl) (by kernel_rfl) (by kernel_rfl) (fun _ _ _ h => h) (Or.inl ⟨by rfl, by rintro w' ⟨s1, s2⟩; go_simp⟩) hS0 ?_
                  refine wpAnyH_take (i := 7) (v := .pointer (some ⟨w3.heap.size + 1, 1, none⟩)) rfl (by kernel_rfl) (by kernel_rfl) (by kernel_rfl) (fun _ _ _ h => h) (Or.inl ⟨by rfl, by rintro w' ⟨s1, s2⟩; go_simp⟩) hS0 ?_
                  refine wpAnyH_take (i := 8) (v := .int .i64 y3) rfl (by kernel_rfl) (by kernel_rfl) (by kernel_rfl) (fun _ _ _ h => h) (Or.inl ⟨by rfl, by rintro w' ⟨s1, s2⟩; go_simp⟩) hS0 ?_
                  refine wpAnyH_take (i := 10) (v := .int .i64 0) rfl (by kernel_rfl) (by kernel_rfl) (by kernel_rfl) (fun _ _ _ h => h) (Or.inl ⟨by rfl, by rintro w' ⟨s1, s2⟩; go_simp⟩) hS0 ?_
                  refine wpAnyH_all (rs := [2, 9]) (by kernel_rfl) (by simp) ?_
                  intro i hi
                  have hi' : i = 2 ∨ i = 9 := by simpa using hi
                  rcases hi' with rfl | rfl
                  · skip
                    refine wpOp_now rfl (by rfl) ?_
                    go_simp
                    have hS1 : (fun w' : World => ((w'.cell? ⟨w3.heap.size + 1, 0, none⟩ = some (.int .i64 x3) ∧ w'.cell? ⟨w3.heap.size + 1, 1, none⟩ = some (.int .i64 y3)) ∧ w'.cell? ⟨Y.heap.size, 0, none⟩ = some (.int .i64 (1)))) (Y.alloc (.cells #[.int .i64 1, .int .i64 0, .int .i64 (-1), .int .i64 0] 3)).drew := ⟨⟨cellDr (cellAl c0), cellDr (cellAl c1)⟩, by go_simp⟩
                    refine anyH_mono (S' := fun w' : World => ((w'.cell? ⟨w3.heap.size + 1, 0, none⟩ = some (.int .i64 x3) ∧ w'.cell? ⟨w3.heap.size + 1, 1, none⟩ = some (.int .i64 y3)) ∧ w'.cell? ⟨Y.heap.size, 0, none⟩ = some (.int .i64 (1)))) (fun _ h => h.1) _ _ _ _ ?_
                    refine wpAnyH_take (i := 4) (v := .pointer (some ⟨Y.heap.size, 0, none⟩)) rfl (by kernel_rfl) (by kernel_rfl) (by kernel_rfl) (fun _ _ _ h => h) (Or.inl ⟨by rfl, by rintro w' ⟨⟨s1, s2⟩, s3⟩; go_simp⟩) hS1 ?_
                    refine wpAnyH_take (i := 5) (v := .int .i64 (1)) rfl (by kernel_rfl) (by kernel_rfl) (by kernel_rfl) (fun _ _ _ h => h) (Or.inl ⟨by rfl, by rintro w' ⟨⟨s1, s2⟩, s3⟩; go_simp⟩) hS1 ?_
                    refine wpAnyH_take (i := 6) (v := .int .i64 (IntKind.i64.wrap (x3 + 1))) rfl (by kernel_rfl) (by kernel_rfl) (by kernel_rfl) (fun _ _ _ h => h) (Or.inl ⟨by rfl, by rintro w' ⟨⟨s1, s2⟩, s3⟩; go_simp⟩) hS1 ?_
                    refine wpAnyH_all (rs := [9]) (by kernel_rfl) (by simp) ?_
                    intro i hi
                    obtain rfl : i = 9 := by simpa using hi
                    refine wpOp_now rfl (by rfl) ?_
                    go_simp
                    have hS2 : (fun w' : World => (((w'.cell? ⟨w3.heap.size + 1, 0, none⟩ = some (.int .i64 x3) ∧ w'.cell? ⟨w3.heap.size + 1, 1, none⟩ = some (.int .i64 y3)) ∧ w'.cell? ⟨Y.heap.size, 0, none⟩ = some (.int .i64 (1))) ∧ w'.cell? ⟨Y.heap.size + 1, 0, none⟩ = some (.int .i64 (0)))) ((Y.alloc (.cells #[.int .i64 1, .int .i64 0, .int .i64 (-1), .int .i64 0] 3)).alloc (.cells #[.int .i64 0, .int .i64 1, .int .i64 0, .int .i64 (-1)] 3)).drew := ⟨⟨⟨cellDr (cellAl (cellAl c0)), cellDr (cellAl (cellAl c1))⟩, by go_simp⟩, by go_simp⟩
                    first | refine ⟨⟨cellAl (cellAl c0), cellAl (cellAl c1)⟩, ?_⟩ | refine ⟨cellAl (cellAl c0), cellAl (cellAl c1), ?_⟩ | skip
                    refine anyH_mono (S' := fun w' : World => (((w'.cell? ⟨w3.heap.size + 1, 0, none⟩ = some (.int .i64 x3) ∧ w'.cell? ⟨w3.heap.size + 1, 1, none⟩ = some (.int .i64 y3)) ∧ w'.cell? ⟨Y.heap.size, 0, none⟩ = some (.int .i64 (1))) ∧ w'.cell? ⟨Y.heap.size + 1, 0, none⟩ = some (.int .i64 (0)))) (fun _ h => h.1) _ _ _ _ ?_
                    refine wpAnyH_take (i := 11) (v := .pointer (some ⟨Y.heap.size + 1, 0, none⟩)) rfl (by kernel_rfl) (by kernel_rfl) (by kernel_rfl) (fun _ _ _ h => h) (Or.inl ⟨by rfl, by rintro w' ⟨⟨⟨s1, s2⟩, s3⟩, s4⟩; go_simp⟩) hS2 ?_
                    refine wpAnyH_take (i := 12) (v := .int .i64 (0)) rfl (by kernel_rfl) (by kernel_rfl) (by kernel_rfl) (fun _ _ _ h => h) (Or.inl ⟨by rfl, by rintro w' ⟨⟨⟨s1, s2⟩, s3⟩, s4⟩; go_simp⟩) hS2 ?_
                    refine wpAnyH_take (i := 13) (v := .int .i64 (IntKind.i64.wrap y3)) rfl (by kernel_rfl) (by kernel_rfl) (by kernel_rfl) (fun _ _ _ h => h) (Or.inl ⟨by rfl, by rintro w' ⟨⟨⟨s1, s2⟩, s3⟩, s4⟩; go_simp⟩) hS2 ?_
                    refine wpAnyH_take (i := 14) (v := .agg #[.int .i64 (IntKind.i64.wrap (x3 + 1)), .int .i64 (IntKind.i64.wrap y3)]) rfl (by kernel_rfl) (by kernel_rfl) (by kernel_rfl) (fun _ _ _ h => h) (Or.inl ⟨by rfl, by rintro w' ⟨⟨⟨s1, s2⟩, s3⟩, s4⟩; go_simp⟩) hS2 ?_
                    refine wpAnyH_all (rs := [15]) (by kernel_rfl) (by simp) ?_
                    intro i hi
                    obtain rfl : i = 15 := by simpa using hi
                    refine wpOp_now rfl (by rfl) ?_
                    go_simp
                    clear hS0 hS1 hS2
                    first | refine ⟨⟨cellAl (cellAl (cellS2 c0 hne9)), cellAl (cellAl (cellS2 c1 hne9))⟩, ?_⟩ | refine ⟨cellAl (cellAl (cellS2 c0 hne9)), cellAl (cellAl (cellS2 c1 hne9)), ?_⟩ | skip
                    refine wpAnyH_done (by kernel_rfl) (NoPanic.normal ?_) _
                    try simp only [Exit.inBlock, Exit.then]
                    go_wp2_with fail
                    go_roundw
                    case rel => exact ⟨m + 1, k6, _, x3, y3, _, _, by omega, by simp, rfl, by omega, by omega, hPB3, ((((R.set (by show W.heap.size < w5.heap.size; omega) _).set (by show W.heap.size < w5.heap.size; omega) _).alloc _).alloc _).drew, ((((O.set (.inr (by show w3.heap.size ≤ w5.heap.size; omega)) _).set (.inr (by show w3.heap.size ≤ w5.heap.size; omega)) _).alloc _).alloc _).drew, (heap_old _ _ (by simp; omega)).trans ((heap_old _ _ (by simp; omega)).trans (set_oth (set_oth TPz (by omega)) (by omega))), (heap_old _ _ (by simp; omega)).trans ((heap_old _ _ (by simp; omega)).trans (set_oth (set_oth TAz (by omega)) (by omega))), (heap_old _ _ (by simp; omega)).trans ((heap_old _ _ (by simp; omega)).trans (setB2 Az))⟩
                    case measure => simp [intOf]; omega
                  · skip
                    refine wpOp_now rfl (by rfl) ?_
                    go_simp
                    have hS1 : (fun w' : World => ((w'.cell? ⟨w3.heap.size + 1, 0, none⟩ = some (.int .i64 x3) ∧ w'.cell? ⟨w3.heap.size + 1, 1, none⟩ = some (.int .i64 y3)) ∧ w'.cell? ⟨Y.heap.size, 0, none⟩ = some (.int .i64 (0)))) (Y.alloc (.cells #[.int .i64 0, .int .i64 1, .int .i64 0, .int .i64 (-1)] 3)).drew := ⟨⟨cellDr (cellAl c0), cellDr (cellAl c1)⟩, by go_simp⟩
                    refine anyH_mono (S' := fun w' : World => ((w'.cell? ⟨w3.heap.size + 1, 0, none⟩ = some (.int .i64 x3) ∧ w'.cell? ⟨w3.heap.size + 1, 1, none⟩ = some (.int .i64 y3)) ∧ w'.cell? ⟨Y.heap.size, 0, none⟩ = some (.int .i64 (0)))) (fun _ h => h.1) _ _ _ _ ?_
                    refine wpAnyH_take (i := 11) (v := .pointer (some ⟨Y.heap.size, 0, none⟩)) rfl (by kernel_rfl) (by kernel_rfl) (by kernel_rfl) (fun _ _ _ h => h) (Or.inl ⟨by rfl, by rintro w' ⟨⟨s1, s2⟩, s3⟩; go_simp⟩) hS1 ?_
                    refine wpAnyH_take (i := 12) (v := .int .i64 (0)) rfl (by kernel_rfl) (by kernel_rfl) (by kernel_rfl) (fun _ _ _ h => h) (Or.inl ⟨by rfl, by rintro w' ⟨⟨s1, s2⟩, s3⟩; go_simp⟩) hS1 ?_
                    refine wpAnyH_take (i := 13) (v := .int .i64 (IntKind.i64.wrap y3)) rfl (by kernel_rfl) (by kernel_rfl) (by kernel_rfl) (fun _ _ _ h => h) (Or.inl ⟨by rfl, by rintro w' ⟨⟨s1, s2⟩, s3⟩; go_simp⟩) hS1 ?_
                    refine wpAnyH_all (rs := [2]) (by kernel_rfl) (by simp) ?_
                    intro i hi
                    obtain rfl : i = 2 := by simpa using hi
                    refine wpOp_now rfl (by rfl) ?_
                    go_simp
                    have hS2 : (fun w' : World => (((w'.cell? ⟨w3.heap.size + 1, 0, none⟩ = some (.int .i64 x3) ∧ w'.cell? ⟨w3.heap.size + 1, 1, none⟩ = some (.int .i64 y3)) ∧ w'.cell? ⟨Y.heap.size, 0, none⟩ = some (.int .i64 (0))) ∧ w'.cell? ⟨Y.heap.size + 1, 0, none⟩ = some (.int .i64 (1)))) ((Y.alloc (.cells #[.int .i64 0, .int .i64 1, .int .i64 0, .int .i64 (-1)] 3)).alloc (.cells #[.int .i64 1, .int .i64 0, .int .i64 (-1), .int .i64 0] 3)).drew := ⟨⟨⟨cellDr (cellAl (cellAl c0)), cellDr (cellAl (cellAl c1))⟩, by go_simp⟩, by go_simp⟩
                    first | refine ⟨⟨cellAl (cellAl c0), cellAl (cellAl c1)⟩, ?_⟩ | refine ⟨cellAl (cellAl c0), cellAl (cellAl c1), ?_⟩ | skip
                    refine anyH_mono (S' := fun w' : World => (((w'.cell? ⟨w3.heap.size + 1, 0, none⟩ = some (.int .i64 x3) ∧ w'.cell? ⟨w3.heap.size + 1, 1, none⟩ = some (.int .i64 y3)) ∧ w'.cell? ⟨Y.heap.size, 0, none⟩ = some (.int .i64 (0))) ∧ w'.cell? ⟨Y.heap.size + 1, 0, none⟩ = some (.int .i64 (1)))) (fun _ h => h.1) _ _ _ _ ?_
                    refine wpAnyH_take (i := 4) (v := .pointer (some ⟨Y.heap.size + 1, 0, none⟩)) rfl (by kernel_rfl) (by kernel_rfl) (by kernel_rfl) (fun _ _ _ h => h) (Or.inl ⟨by rfl, by rintro w' ⟨⟨⟨s1, s2⟩, s3⟩, s4⟩; go_simp⟩) hS2 ?_
                    refine wpAnyH_take (i := 5) (v := .int .i64 (1)) rfl (by kernel_rfl) (by kernel_rfl) (by kernel_rfl) (fun _ _ _ h => h) (Or.inl ⟨by rfl, by rintro w' ⟨⟨⟨s1, s2⟩, s3⟩, s4⟩; go_simp⟩) hS2 ?_
                    refine wpAnyH_take (i := 6) (v := .int .i64 (IntKind.i64.wrap (x3 + 1))) rfl (by kernel_rfl) (by kernel_rfl) (by kernel_rfl) (fun _ _ _ h => h) (Or.inl ⟨by rfl, by rintro w' ⟨⟨⟨s1, s2⟩, s3⟩, s4⟩; go_simp⟩) hS2 ?_
                    refine wpAnyH_take (i := 14) (v := .agg #[.int .i64 (IntKind.i64.wrap (x3 + 1)), .int .i64 (IntKind.i64.wrap y3)]) rfl (by kernel_rfl) (by kernel_rfl) (by kernel_rfl) (fun _ _ _ h => h) (Or.inl ⟨by rfl, by rintro w' ⟨⟨⟨s1, s2⟩, s3⟩, s4⟩; go_simp⟩) hS2 ?_
                    refine wpAnyH_all (rs := [15]) (by kernel_rfl) (by simp) ?_
                    intro i hi
                    obtain rfl : i = 15 := by simpa using hi
                    refine wpOp_now rfl (by rfl) ?_
                    go_simp
                    clear hS0 hS1 hS2
                    first | refine ⟨⟨cellAl (cellAl (cellS2 c0 hne9)), cellAl (cellAl (cellS2 c1 hne9))⟩, ?_⟩ | refine ⟨cellAl (cellAl (cellS2 c0 hne9)), cellAl (cellAl (cellS2 c1 hne9)), ?_⟩ | skip
                    refine wpAnyH_done (by kernel_rfl) (NoPanic.normal ?_) _
                    try simp only [Exit.inBlock, Exit.then]
                    go_wp2_with fail
                    go_roundw
                    case rel => exact ⟨m + 1, k6, _, x3, y3, _, _, by omega, by simp, rfl, by omega, by omega, hPB3, ((((R.set (by show W.heap.size < w5.heap.size; omega) _).set (by show W.heap.size < w5.heap.size; omega) _).alloc _).alloc _).drew, ((((O.set (.inr (by show w3.heap.size ≤ w5.heap.size; omega)) _).set (.inr (by show w3.heap.size ≤ w5.heap.size; omega)) _).alloc _).alloc _).drew, (heap_old _ _ (by simp; omega)).trans ((heap_old _ _ (by simp; omega)).trans (set_oth (set_oth TPz (by omega)) (by omega))), (heap_old _ _ (by simp; omega)).trans ((heap_old _ _ (by simp; omega)).trans (set_oth (set_oth TAz (by omega)) (by omega))), (heap_old _ _ (by simp; omega)).trans ((heap_old _ _ (by simp; omega)).trans (setB2 Az))⟩
                    case measure => simp [intOf]; omega
                · skip
                  go_wp2_with fail
                  have hS0 : (fun w' : World => (w'.cell? ⟨w3.heap.size + 1, 0, none⟩ = some (.int .i64 x3) ∧ w'.cell? ⟨w3.heap.size + 1, 1, none⟩ = some (.int .i64 y3))) Y.drew := ⟨cellDr c0, cellDr c1⟩
                  refine wp_region_noPanic ?_
                  refine wp_region_held (S := fun w' : World => (w'.cell? ⟨w3.heap.size + 1, 0, none⟩ = some (.int .i64 x3) ∧ w'.cell? ⟨w3.heap.size + 1, 1, none⟩ = some (.int .i64 y3))) hmx ?_
                  refine wpAnyH_take (i := 0) (v := .pointer (some ⟨w3.heap.size + 1, 0, none⟩)) rfl (by kernel_rfl) (by kernel_rfl) (by kernel_rfl) (fun _ _ _ h => h) (Or.inl ⟨by rfl, by rintro w' ⟨s1, s2⟩; go_simp⟩) hS0 ?_
                  refine wpAnyH_take (i := 1) (v := .int .i64 x3) rfl (by kernel_rfl) (by kernel_rfl) (by kernel_rfl) (fun _ _ _ h => h) (Or.inl ⟨by rfl, by rintro w' ⟨s1, s2⟩; go_simp⟩) hS0 ?_
                  refine wpAnyH_take (i := 3) (v := .int .i64 1) rfl (by kernel_rfl) (by kernel_rfl) (by kernel_rfl) (fun _ _ _ h => h) (Or.inl ⟨by rfl, by rintro w' ⟨s1, s2⟩; go_simp⟩) hS0 ?_
                  refine wpAnyH_take (i := 7) (v := .pointer (some ⟨w3.heap.size + 1, 1, none⟩)) rfl (by kernel_rfl) (by kernel_rfl) (by kernel_rfl) (fun _ _ _ h => h) (Or.inl ⟨by rfl, by rintro w' ⟨s1, s2⟩; go_simp⟩) hS0 ?_
                  refine wpAnyH_take (i := 8) (v := .int .i64 y3) rfl (by kernel_rfl) (by kernel_rfl) (by kernel_rfl) (fun _ _ _ h => h) (Or.inl ⟨by rfl, by rintro w' ⟨s1, s2⟩; go_simp⟩) hS0 ?_
                  refine wpAnyH_take (i := 10) (v := .int .i64 1) rfl (by kernel_rfl) (by kernel_rfl) (by kernel_rfl) (fun _ _ _ h => h) (Or.inl ⟨by rfl, by rintro w' ⟨s1, s2⟩; go_simp⟩) hS0 ?_
                  refine wpAnyH_all (rs := [2, 9]) (by kernel_rfl) (by simp) ?_
                  intro i hi
                  have hi' : i = 2 ∨ i = 9 := by simpa using hi
                  rcases hi' with rfl | rfl
                  · skip
                    refine wpOp_now rfl (by rfl) ?_
                    go_simp
                    have hS1 : (fun w' : World => ((w'.cell? ⟨w3.heap.size + 1, 0, none⟩ = some (.int .i64 x3) ∧ w'.cell? ⟨w3.heap.size + 1, 1, none⟩ = some (.int .i64 y3)) ∧ w'.cell? ⟨Y.heap.size, 1, none⟩ = some (.int .i64 (0)))) (Y.alloc (.cells #[.int .i64 1, .int .i64 0, .int .i64 (-1), .int .i64 0] 3)).drew := ⟨⟨cellDr (cellAl c0), cellDr (cellAl c1)⟩, by go_simp⟩
                    refine anyH_mono (S' := fun w' : World => ((w'.cell? ⟨w3.heap.size + 1, 0, none⟩ = some (.int .i64 x3) ∧ w'.cell? ⟨w3.heap.size + 1, 1, none⟩ = some (.int .i64 y3)) ∧ w'.cell? ⟨Y.heap.size, 1, none⟩ = some (.int .i64 (0)))) (fun _ h => h.1) _ _ _ _ ?_
                    refine wpAnyH_take (i := 4) (v := .pointer (some ⟨Y.heap.size, 1, none⟩)) rfl (by kernel_rfl) (by kernel_rfl) (by kernel_rfl) (fun _ _ _ h => h) (Or.inl ⟨by rfl, by rintro w' ⟨⟨s1, s2⟩, s3⟩; go_simp⟩) hS1 ?_
                    refine wpAnyH_take (i := 5) (v := .int .i64 (0)) rfl (by kernel_rfl) (by kernel_rfl) (by kernel_rfl) (fun _ _ _ h => h) (Or.inl ⟨by rfl, by rintro w' ⟨⟨s1, s2⟩, s3⟩; go_simp⟩) hS1 ?_
                    refine wpAnyH_take (i := 6) (v := .int .i64 (IntKind.i64.wrap x3)) rfl (by kernel_rfl) (by kernel_rfl) (by kernel_rfl) (fun _ _ _ h => h) (Or.inl ⟨by rfl, by rintro w' ⟨⟨s1, s2⟩, s3⟩; go_simp⟩) hS1 ?_
                    refine wpAnyH_all (rs := [9]) (by kernel_rfl) (by simp) ?_
                    intro i hi
                    obtain rfl : i = 9 := by simpa using hi
                    refine wpOp_now rfl (by rfl) ?_
                    go_simp
                    have hS2 : (fun w' : World => (((w'.cell? ⟨w3.heap.size + 1, 0, none⟩ = some (.int .i64 x3) ∧ w'.cell? ⟨w3.heap.size + 1, 1, none⟩ = some (.int .i64 y3)) ∧ w'.cell? ⟨Y.heap.size, 1, none⟩ = some (.int .i64 (0))) ∧ w'.cell? ⟨Y.heap.size + 1, 1, none⟩ = some (.int .i64 (1)))) ((Y.alloc (.cells #[.int .i64 1, .int .i64 0, .int .i64 (-1), .int .i64 0] 3)).alloc (.cells #[.int .i64 0, .int .i64 1, .int .i64 0, .int .i64 (-1)] 3)).drew := ⟨⟨⟨cellDr (cellAl (cellAl c0)), cellDr (cellAl (cellAl c1))⟩, by go_simp⟩, by go_simp⟩
                    first | refine ⟨⟨cellAl (cellAl c0), cellAl (cellAl c1)⟩, ?_⟩ | refine ⟨cellAl (cellAl c0), cellAl (cellAl c1), ?_⟩ | skip
                    refine anyH_mono (S' := fun w' : World => (((w'.cell? ⟨w3.heap.size + 1, 0, none⟩ = some (.int .i64 x3) ∧ w'.cell? ⟨w3.heap.size + 1, 1, none⟩ = some (.int .i64 y3)) ∧ w'.cell? ⟨Y.heap.size, 1, none⟩ = some (.int .i64 (0))) ∧ w'.cell? ⟨Y.heap.size + 1, 1, none⟩ = some (.int .i64 (1)))) (fun _ h => h.1) _ _ _ _ ?_
                    refine wpAnyH_take (i := 11) (v := .pointer (some ⟨Y.heap.size + 1, 1, none⟩)) rfl (by kernel_rfl) (by kernel_rfl) (by kernel_rfl) (fun _ _ _ h => h) (Or.inl ⟨by rfl, by rintro w' ⟨⟨⟨s1, s2⟩, s3⟩, s4⟩; go_simp⟩) hS2 ?_
                    refine wpAnyH_take (i := 12) (v := .int .i64 (1)) rfl (by kernel_rfl) (by kernel_rfl) (by kernel_rfl) (fun _ _ _ h => h) (Or.inl ⟨by rfl, by rintro w' ⟨⟨⟨s1, s2⟩, s3⟩, s4⟩; go_simp⟩) hS2 ?_
                    refine wpAnyH_take (i := 13) (v := .int .i64 (IntKind.i64.wrap (y3 + 1))) rfl (by kernel_rfl) (by kernel_rfl) (by kernel_rfl) (fun _ _ _ h => h) (Or.inl ⟨by rfl, by rintro w' ⟨⟨⟨s1, s2⟩, s3⟩, s4⟩; go_simp⟩) hS2 ?_
                    refine wpAnyH_take (i := 14) (v := .agg #[.int .i64 (IntKind.i64.wrap x3), .int .i64 (IntKind.i64.wrap (y3 + 1))]) rfl (by kernel_rfl) (by kernel_rfl) (by kernel_rfl) (fun _ _ _ h => h) (Or.inl ⟨by rfl, by rintro w' ⟨⟨⟨s1, s2⟩, s3⟩, s4⟩; go_simp⟩) hS2 ?_
                    refine wpAnyH_all (rs := [15]) (by kernel_rfl) (by simp) ?_
                    intro i hi
                    obtain rfl : i = 15 := by simpa using hi
                    refine wpOp_now rfl (by rfl) ?_
                    go_simp
                    clear hS0 hS1 hS2
                    first | refine ⟨⟨cellAl (cellAl (cellS2 c0 hne9)), cellAl (cellAl (cellS2 c1 hne9))⟩, ?_⟩ | refine ⟨cellAl (cellAl (cellS2 c0 hne9)), cellAl (cellAl (cellS2 c1 hne9)), ?_⟩ | skip
                    refine wpAnyH_done (by kernel_rfl) (NoPanic.normal ?_) _
                    try simp only [Exit.inBlock, Exit.then]
                    go_wp2_with fail
                    go_roundw
                    case rel => exact ⟨m + 1, k6, _, x3, y3, _, _, by omega, by simp, rfl, by omega, by omega, hPB3, ((((R.set (by show W.heap.size < w5.heap.size; omega) _).set (by show W.heap.size < w5.heap.size; omega) _).alloc _).alloc _).drew, ((((O.set (.inr (by show w3.heap.size ≤ w5.heap.size; omega)) _).set (.inr (by show w3.heap.size ≤ w5.heap.size; omega)) _).alloc _).alloc _).drew, (heap_old _ _ (by simp; omega)).trans ((heap_old _ _ (by simp; omega)).trans (set_oth (set_oth TPz (by omega)) (by omega))), (heap_old _ _ (by simp; omega)).trans ((heap_old _ _ (by simp; omega)).trans (set_oth (set_oth TAz (by omega)) (by omega))), (heap_old _ _ (by simp; omega)).trans ((heap_old _ _ (by simp; omega)).trans (setB2 Az))⟩
                    case measure => simp [intOf]; omega
                  · skip
                    refine wpOp_now rfl (by rfl) ?_
                    go_simp
                    have hS1 : (fun w' : World => ((w'.cell? ⟨w3.heap.size + 1, 0, none⟩ = some (.int .i64 x3) ∧ w'.cell? ⟨w3.heap.size + 1, 1, none⟩ = some (.int .i64 y3)) ∧ w'.cell? ⟨Y.heap.size, 1, none⟩ = some (.int .i64 (1)))) (Y.alloc (.cells #[.int .i64 0, .int .i64 1, .int .i64 0, .int .i64 (-1)] 3)).drew := ⟨⟨cellDr (cellAl c0), cellDr (cellAl c1)⟩, by go_simp⟩
                    refine anyH_mono (S' := fun w' : World => ((w'.cell? ⟨w3.heap.size + 1, 0, none⟩ = some (.int .i64 x3) ∧ w'.cell? ⟨w3.heap.size + 1, 1, none⟩ = some (.int .i64 y3)) ∧ w'.cell? ⟨Y.heap.size, 1, none⟩ = some (.int .i64 (1)))) (fun _ h => h.1) _ _ _ _ ?_
                    refine wpAnyH_take (i := 11) (v := .pointer (some ⟨Y.heap.size, 1, none⟩)) rfl (by kernel_rfl) (by kernel_rfl) (by kernel_rfl) (fun _ _ _ h => h) (Or.inl ⟨by rfl, by rintro w' ⟨⟨s1, s2⟩, s3⟩; go_simp⟩) hS1 ?_
                    refine wpAnyH_take (i := 12) (v := .int .i64 (1)) rfl (by kernel_rfl) (by kernel_rfl) (by kernel_rfl) (fun _ _ _ h => h) (Or.inl ⟨by rfl, by rintro w' ⟨⟨s1, s2⟩, s3⟩; go_simp⟩) hS1 ?_
                    refine wpAnyH_take (i := 13) (v := .int .i64 (IntKind.i64.wrap (y3 + 1))) rfl (by kernel_rfl) (by kernel_rfl) (by kernel_rfl) (fun _ _ _ h => h) (Or.inl ⟨by rfl, by rintro w' ⟨⟨s1, s2⟩, s3⟩; go_simp⟩) hS1 ?_
                    refine wpAnyH_all (rs := [2]) (by kernel_rfl) (by simp) ?_
                    intro i hi
                    obtain rfl : i = 2 := by simpa using hi
                    refine wpOp_now rfl (by rfl) ?_
                    go_simp
                    have hS2 : (fun w' : World => (((w'.cell? ⟨w3.heap.size + 1, 0, none⟩ = some (.int .i64 x3) ∧ w'.cell? ⟨w3.heap.size + 1, 1, none⟩ = some (.int .i64 y3)) ∧ w'.cell? ⟨Y.heap.size, 1, none⟩ = some (.int .i64 (1))) ∧ w'.cell? ⟨Y.heap.size + 1, 1, none⟩ = some (.int .i64 (0)))) ((Y.alloc (.cells #[.int .i64 0, .int .i64 1, .int .i64 0, .int .i64 (-1)] 3)).alloc (.cells #[.int .i64 1, .int .i64 0, .int .i64 (-1), .int .i64 0] 3)).drew := ⟨⟨⟨cellDr (cellAl (cellAl c0)), cellDr (cellAl (cellAl c1))⟩, by go_simp⟩, by go_simp⟩
                    first | refine ⟨⟨cellAl (cellAl c0), cellAl (cellAl c1)⟩, ?_⟩ | refine ⟨cellAl (cellAl c0), cellAl (cellAl c1), ?_⟩ | skip
                    refine anyH_mono (S' := fun w' : World => (((w'.cell? ⟨w3.heap.size + 1, 0, none⟩ = some (.int .i64 x3) ∧ w'.cell? ⟨w3.heap.size + 1, 1, none⟩ = some (.int .i64 y3)) ∧ w'.cell? ⟨Y.heap.size, 1, none⟩ = some (.int .i64 (1))) ∧ w'.cell? ⟨Y.heap.size + 1, 1, none⟩ = some (.int .i64 (0)))) (fun _ h => h.1) _ _ _ _ ?_
                    refine wpAnyH_take (i := 4) (v := .pointer (some ⟨Y.heap.size + 1, 1, none⟩)) rfl (by kernel_rfl) (by kernel_rfl) (by kernel_rfl) (fun _ _ _ h => h) (Or.inl ⟨by rfl, by rintro w' ⟨⟨⟨s1, s2⟩, s3⟩, s4⟩; go_simp⟩) hS2 ?_
                    refine wpAnyH_take (i := 5) (v := .int .i64 (0)) rfl (by kernel_rfl) (by kernel_rfl) (by kernel_rfl) (fun _ _ _ h => h) (Or.inl ⟨by rfl, by rintro w' ⟨⟨⟨s1, s2⟩, s3⟩, s4⟩; go_simp⟩) hS2 ?_
                    refine wpAnyH_take (i := 6) (v := .int .i64 (IntKind.i64.wrap x3)) rfl (by kernel_rfl) (by kernel_rfl) (by kernel_rfl) (fun _ _ _ h => h) (Or.inl ⟨by rfl, by rintro w' ⟨⟨⟨s1, s2⟩, s3⟩, s4⟩; go_simp⟩) hS2 ?_
                    refine wpAnyH_take (i := 14) (v := .agg #[.int .i64 (IntKind.i64.wrap x3), .int .i64 (IntKind.i64.wrap (y3 + 1))]) rfl (by kernel_rfl) (by kernel_rfl) (by kernel_rfl) (fun _ _ _ h => h) (Or.inl ⟨by rfl, by rintro w' ⟨⟨⟨s1, s2⟩, s3⟩, s4⟩; go_simp⟩) hS2 ?_
                    refine wpAnyH_all (rs := [15]) (by kernel_rfl) (by simp) ?_
                    intro i hi
                    obtain rfl : i = 15 := by simpa using hi
                    refine wpOp_now rfl (by rfl) ?_
                    go_simp
                    clear hS0 hS1 hS2
                    first | refine ⟨⟨cellAl (cellAl (cellS2 c0 hne9)), cellAl (cellAl (cellS2 c1 hne9))⟩, ?_⟩ | refine ⟨cellAl (cellAl (cellS2 c0 hne9)), cellAl (cellAl (cellS2 c1 hne9)), ?_⟩ | skip
                    refine wpAnyH_done (by kernel_rfl) (NoPanic.normal ?_) _
                    try simp only [Exit.inBlock, Exit.then]
                    go_wp2_with fail
                    go_roundw
                    case rel => exact ⟨m + 1, k6, _, x3, y3, _, _, by omega, by simp, rfl, by omega, by omega, hPB3, ((((R.set (by show W.heap.size < w5.heap.size; omega) _).set (by show W.heap.size < w5.heap.size; omega) _).alloc _).alloc _).drew, ((((O.set (.inr (by show w3.heap.size ≤ w5.heap.size; omega)) _).set (.inr (by show w3.heap.size ≤ w5.heap.size; omega)) _).alloc _).alloc _).drew, (heap_old _ _ (by simp; omega)).trans ((heap_old _ _ (by simp; omega)).trans (set_oth (set_oth TPz (by omega)) (by omega))), (heap_old _ _ (by simp; omega)).trans ((heap_old _ _ (by simp; omega)).trans (set_oth (set_oth TAz (by omega)) (by omega))), (heap_old _ _ (by simp; omega)).trans ((heap_old _ _ (by simp; omega)).trans (setB2 Az))⟩
                    case measure => simp [intOf]; omega
                · skip
                  go_wp2_with fail
                  have hS0 : (fun w' : World => (w'.cell? ⟨w3.heap.size + 1, 0, none⟩ = some (.int .i64 x3) ∧ w'.cell? ⟨w3.heap.size + 1, 1, none⟩ = some (.int .i64 y3))) Y.drew := ⟨cellDr c0, cellDr c1⟩
                  refine wp_region_noPanic ?_
                  refine wp_region_held (S := fun w' : World => (w'.cell? ⟨w3.heap.size + 1, 0, none⟩ = some (.int .i64 x3) ∧ w'.cell? ⟨w3.heap.size + 1, 1, none⟩ = some (.int .i64 y3))) hmx ?_
                  refine wpAnyH_take (i := 0) (v := .pointer (some ⟨w3.heap.size + 1, 0, none⟩)) rfl (by kernel_rfl) (by kernel_rfl) (by kernel_rfl) (fun _ _ _ h => h) (Or.inl ⟨by rfl, by rintro w' ⟨s1, s2⟩; go_simp⟩) hS0 ?_
                  refine wpAnyH_take (i := 1) (v := .int .i64 x3) rfl (by kernel_rfl) (by kernel_rfl) (by kernel_rfl) (fun _ _ _ h => h) (Or.inl ⟨by rfl, by rintro w' ⟨s1, s2⟩; go_simp⟩) hS0 ?_
                  refine wpAnyH_take (i := 3) (v := .int .i64 2) rfl (by kernel_rfl) (by kernel_rfl) (by kernel_rfl) (fun _ _ _ h => h) (Or.inl ⟨by rfl, by rintro w' ⟨s1, s2⟩; go_simp⟩) hS0 ?_
                  refine wpAnyH_take (i := 7) (v := .pointer (some ⟨w3.heap.size + 1, 1, none⟩)) rfl (by kernel_rfl) (by kernel_rfl) (by kernel_rfl) (fun _ _ _ h => h) (Or.inl ⟨by rfl, by rintro w' ⟨s1, s2⟩; go_simp⟩) hS0 ?_
                  refine wpAnyH_take (i := 8) (v := .int .i64 y3) rfl (by kernel_rfl) (by kernel_rfl) (by kernel_rfl) (fun _ _ _ h => h) (Or.inl ⟨by rfl, by rintro w' ⟨s1, s2⟩; go_simp⟩) hS0 ?_
                  refine wpAnyH_take (i := 10) (v := .int .i64 2) rfl (by kernel_rfl) (by kernel_rfl) (by kernel_rfl) (fun _ _ _ h => h) (Or.inl ⟨by rfl, by rintro w' ⟨s1, s2⟩; go_simp⟩) hS0 ?_
                  refine wpAnyH_all (rs := [2, 9]) (by kernel_rfl) (by simp) ?_
                  intro i hi
                  have hi' : i = 2 ∨ i = 9 := by simpa using hi
                  rcases hi' with rfl | rfl
                  · skip
                    refine wpOp_now rfl (by rfl) ?_
                    go_simp
                    have hS1 : (fun w' : World => ((w'.cell? ⟨w3.heap.size + 1, 0, none⟩ = some (.int .i64 x3) ∧ w'.cell? ⟨w3.heap.size + 1, 1, none⟩ = some (.int .i64 y3)) ∧ w'.cell? ⟨Y.heap.size, 2, none⟩ = some (.int .i64 (-1)))) (Y.alloc (.cells #[.int .i64 1, .int .i64 0, .int .i64 (-1), .int .i64 0] 3)).drew := ⟨⟨cellDr (cellAl c0), cellDr (cellAl c1)⟩, by go_simp⟩
                    refine anyH_mono (S' := fun w' : World => ((w'.cell? ⟨w3.heap.size + 1, 0, none⟩ = some (.int .i64 x3) ∧ w'.cell? ⟨w3.heap.size + 1, 1, none⟩ = some (.int .i64 y3)) ∧ w'.cell? ⟨Y.heap.size, 2, none⟩ = some (.int .i64 (-1)))) (fun _ h => h.1) _ _ _ _ ?_
                    refine wpAnyH_take (i := 4) (v := .pointer (some ⟨Y.heap.size, 2, none⟩)) rfl (by kernel_rfl) (by kernel_rfl) (by kernel_rfl) (fun _ _ _ h => h) (Or.inl ⟨by rfl, by rintro w' ⟨⟨s1, s2⟩, s3⟩; go_simp⟩) hS1 ?_
                    refine wpAnyH_take (i := 5) (v := .int .i64 (-1)) rfl (by kernel_rfl) (by kernel_rfl) (by kernel_rfl) (fun _ _ _ h => h) (Or.inl ⟨by rfl, by rintro w' ⟨⟨s1, s2⟩, s3⟩; go_simp⟩) hS1 ?_
                    refine wpAnyH_take (i := 6) (v := .int .i64 (IntKind.i64.wrap (x3 + -1))) rfl (by kernel_rfl) (by kernel_rfl) (by kernel_rfl) (fun _ _ _ h => h) (Or.inl ⟨by rfl, by rintro w' ⟨⟨s1, s2⟩, s3⟩; go_simp⟩) hS1 ?_
                    refine wpAnyH_all (rs := [9]) (by kernel_rfl) (by simp) ?_
                    intro i hi
                    obtain rfl : i = 9 := by simpa using hi
                    refine wpOp_now rfl (by rfl) ?_
                    go_simp
                    have hS2 : (fun w' : World => (((w'.cell? ⟨w3.heap.size + 1, 0, none⟩ = some (.int .i64 x3) ∧ w'.cell? ⟨w3.heap.size + 1, 1, none⟩ = some (.int .i64 y3)) ∧ w'.cell? ⟨Y.heap.size, 2, none⟩ = some (.int .i64 (-1))) ∧ w'.cell? ⟨Y.heap.size + 1, 2, none⟩ = some (.int .i64 (0)))) ((Y.alloc (.cells #[.int .i64 1, .int .i64 0, .int .i64 (-1), .int .i64 0] 3)).alloc (.cells #[.int .i64 0, .int .i64 1, .int .i64 0, .int .i64 (-1)] 3)).drew := ⟨⟨⟨cellDr (cellAl (cellAl c0)), cellDr (cellAl (cellAl c1))⟩, by go_simp⟩, by go_simp⟩
                    first | refine ⟨⟨cellAl (cellAl c0), cellAl (cellAl c1)⟩, ?_⟩ | refine ⟨cellAl (cellAl c0), cellAl (cellAl c1), ?_⟩ | skip
                    refine anyH_mono (S' := fun w' : World => (((w'.cell? ⟨w3.heap.size + 1, 0, none⟩ = some (.int .i64 x3) ∧ w'.cell? ⟨w3.heap.size + 1, 1, none⟩ = some (.int .i64 y3)) ∧ w'.cell? ⟨Y.heap.size, 2, none⟩ = some (.int .i64 (-1))) ∧ w'.cell? ⟨Y.heap.size + 1, 2, none⟩ = some (.int .i64 (0)))) (fun _ h => h.1) _ _ _ _ ?_
                    refine wpAnyH_take (i := 11) (v := .pointer (some ⟨Y.heap.size + 1, 2, none⟩)) rfl (by kernel_rfl) (by kernel_rfl) (by kernel_rfl) (fun _ _ _ h => h) (Or.inl ⟨by rfl, by rintro w' ⟨⟨⟨s1, s2⟩, s3⟩, s4⟩; go_simp⟩) hS2 ?_
                    refine wpAnyH_take (i := 12) (v := .int .i64 (0)) rfl (by kernel_rfl) (by kernel_rfl) (by kernel_rfl) (fun _ _ _ h => h) (Or.inl ⟨by rfl, by rintro w' ⟨⟨⟨s1, s2⟩, s3⟩, s4⟩; go_simp⟩) hS2 ?_
                    refine wpAnyH_take (i := 13) (v := .int .i64 (IntKind.i64.wrap y3)) rfl (by kernel_rfl) (by kernel_rfl) (by kernel_rfl) (fun _ _ _ h => h) (Or.inl ⟨by rfl, by rintro w' ⟨⟨⟨s1, s2⟩, s3⟩, s4⟩; go_simp⟩) hS2 ?_
                    refine wpAnyH_take (i := 14) (v := .agg #[.int .i64 (IntKind.i64.wrap (x3 + -1)), .int .i64 (IntKind.i64.wrap y3)]) rfl (by kernel_rfl) (by kernel_rfl) (by kernel_rfl) (fun _ _ _ h => h) (Or.inl ⟨by rfl, by rintro w' ⟨⟨⟨s1, s2⟩, s3⟩, s4⟩; go_simp⟩) hS2 ?_
                    refine wpAnyH_all (rs := [15]) (by kernel_rfl) (by simp) ?_
                    intro i hi
                    obtain rfl : i = 15 := by simpa using hi
                    refine wpOp_now rfl (by rfl) ?_
                    go_simp
                    clear hS0 hS1 hS2
                    first | refine ⟨⟨cellAl (cellAl (cellS2 c0 hne9)), cellAl (cellAl (cellS2 c1 hne9))⟩, ?_⟩ | refine ⟨cellAl (cellAl (cellS2 c0 hne9)), cellAl (cellAl (cellS2 c1 hne9)), ?_⟩ | skip
                    refine wpAnyH_done (by kernel_rfl) (NoPanic.normal ?_) _
                    try simp only [Exit.inBlock, Exit.then]
                    go_wp2_with fail
                    go_roundw
                    case rel => exact ⟨m + 1, k6, _, x3, y3, _, _, by omega, by simp, rfl, by omega, by omega, hPB3, ((((R.set (by show W.heap.size < w5.heap.size; omega) _).set (by show W.heap.size < w5.heap.size; omega) _).alloc _).alloc _).drew, ((((O.set (.inr (by show w3.heap.size ≤ w5.heap.size; omega)) _).set (.inr (by show w3.heap.size ≤ w5.heap.size; omega)) _).alloc _).alloc _).drew, (heap_old _ _ (by simp; omega)).trans ((heap_old _ _ (by simp; omega)).trans (set_oth (set_oth TPz (by omega)) (by omega))), (heap_old _ _ (by simp; omega)).trans ((heap_old _ _ (by simp; omega)).trans (set_oth (set_oth TAz (by omega)) (by omega))), (heap_old _ _ (by simp; omega)).trans ((heap_old _ _ (by simp; omega)).trans (setB2 Az))⟩
                    case measure => simp [intOf]; omega
                  · skip
                    refine wpOp_now rfl (by rfl) ?_
                    go_simp
                    have hS1 : (fun w' : World => ((w'.cell? ⟨w3.heap.size + 1, 0, none⟩ = some (.int .i64 x3) ∧ w'.cell? ⟨w3.heap.size + 1, 1, none⟩ = some (.int .i64 y3)) ∧ w'.cell? ⟨Y.heap.size, 2, none⟩ = some (.int .i64 (0)))) (Y.alloc (.cells #[.int .i64 0, .int .i64 1, .int .i64 0, .int .i64 (-1)] 3)).drew := ⟨⟨cellDr (cellAl c0), cellDr (cellAl c1)⟩, by go_simp⟩
                    refine anyH_mono (S' := fun w' : World => ((w'.cell? ⟨w3.heap.size + 1, 0, none⟩ = some (.int .i64 x3) ∧ w'.cell? ⟨w3.heap.size + 1, 1, none⟩ = some (.int .i64 y3)) ∧ w'.cell? ⟨Y.heap.size, 2, none⟩ = some (.int .i64 (0)))) (fun _ h => h.1) _ _ _ _ ?_
                    refine wpAnyH_take (i := 11) (v := .pointer (some ⟨Y.heap.size, 2, none⟩)) rfl (by kernel_rfl) (by kernel_rfl) (by kernel_rfl) (fun _ _ _ h => h) (Or.inl ⟨by rfl, by rintro w' ⟨⟨s1, s2⟩, s3⟩; go_simp⟩) hS1 ?_
                    refine wpAnyH_take (i := 12) (v := .int .i64 (0)) rfl (by kernel_rfl) (by kernel_rfl) (by kernel_rfl) (fun _ _ _ h => h) (Or.inl ⟨by rfl, by rintro w' ⟨⟨s1, s2⟩, s3⟩; go_simp⟩) hS1 ?_
                    refine wpAnyH_take (i := 13) (v := .int .i64 (IntKind.i64.wrap y3)) rfl (by kernel_rfl) (by kernel_rfl) (by kernel_rfl) (fun _ _ _ h => h) (Or.inl ⟨by rfl, by rintro w' ⟨⟨s1, s2⟩, s3⟩; go_simp⟩) hS1 ?_
                    refine wpAnyH_all (rs := [2]) (by kernel_rfl) (by simp) ?_
                    intro i hi
                    obtain rfl : i = 2 := by simpa using hi
                    refine wpOp_now rfl (by rfl) ?_
                    go_simp
                    have hS2 : (fun w' : World => (((w'.cell? ⟨w3.heap.size + 1, 0, none⟩ = some (.int .i64 x3) ∧ w'.cell? ⟨w3.heap.size + 1, 1, none⟩ = some (.int .i64 y3)) ∧ w'.cell? ⟨Y.heap.size, 2, none⟩ = some (.int .i64 (0))) ∧ w'.cell? ⟨Y.heap.size + 1, 2, none⟩ = some (.int .i64 (-1)))) ((Y.alloc (.cells #[.int .i64 0, .int .i64 1, .int .i64 0, .int .i64 (-1)] 3)).alloc (.cells #[.int .i64 1, .int .i64 0, .int .i64 (-1), .int .i64 0] 3)).drew := ⟨⟨⟨cellDr (cellAl (cellAl c0)), cellDr (cellAl (cellAl c1))⟩, by go_simp⟩, by go_simp⟩
                    first | refine ⟨⟨cellAl (cellAl c0), cellAl (cellAl c1)⟩, ?_⟩ | refine ⟨cellAl (cellAl c0), cellAl (cellAl c1), ?_⟩ | skip
                    refine anyH_mono (S' := fun w' : World => (((w'.cell? ⟨w3.heap.size + 1, 0, none⟩ = some (.int .i64 x3) ∧ w'.cell? ⟨w3.heap.size + 1, 1, none⟩ = some (.int .i64 y3)) ∧ w'.cell? ⟨Y.heap.size, 2, none⟩ = some (.int .i64 (0))) ∧ w'.cell? ⟨Y.heap.size + 1, 2, none⟩ = some (.int .i64 (-1)))) (fun _ h => h.1) _ _ _ _ ?_
                    refine wpAnyH_take (i := 4) (v := .pointer (some ⟨Y.heap.size + 1, 2, none⟩)) rfl (by kernel_rfl) (by kernel_rfl) (by kernel_rfl) (fun _ _ _ h => h) (Or.inl ⟨by rfl, by rintro w' ⟨⟨⟨s1, s2⟩, s3⟩, s4⟩; go_simp⟩) hS2 ?_
                    refine wpAnyH_take (i := 5) (v := .int .i64 (-1)) rfl (by kernel_rfl) (by kernel_rfl) (by kernel_rfl) (fun _ _ _ h => h) (Or.inl ⟨by rfl, by rintro w' ⟨⟨⟨s1, s2⟩, s3⟩, s4⟩; go_simp⟩) hS2 ?_
                    refine wpAnyH_take (i := 6) (v := .int .i64 (IntKind.i64.wrap (x3 + -1))) rfl (by kernel_rfl) (by kernel_rfl) (by kernel_rfl) (fun _ _ _ h => h) (Or.inl ⟨by rfl, by rintro w' ⟨⟨⟨s1, s2⟩, s3⟩, s4⟩; go_simp⟩) hS2 ?_
                    refine wpAnyH_take (i := 14) (v := .agg #[.int .i64 (IntKind.i64.wrap (x3 + -1)), .int .i64 (IntKind.i64.wrap y3)]) rfl (by kernel_rfl) (by kernel_rfl) (by kernel_rfl) (fun _ _ _ h => h) (Or.inl ⟨by rfl, by rintro w' ⟨⟨⟨s1, s2⟩, s3⟩, s4⟩; go_simp⟩) hS2 ?_
                    refine wpAnyH_all (rs := [15]) (by kernel_rfl) (by simp) ?_
                    intro i hi
                    obtain rfl : i = 15 := by simpa using hi
                    refine wpOp_now rfl (by rfl) ?_
                    go_simp
                    clear hS0 hS1 hS2
                    first | refine ⟨⟨cellAl (cellAl (cellS2 c0 hne9)), cellAl (cellAl (cellS2 c1 hne9))⟩, ?_⟩ | refine ⟨cellAl (cellAl (cellS2 c0 hne9)), cellAl (cellAl (cellS2 c1 hne9)), ?_⟩ | skip
                    refine wpAnyH_done (by kernel_rfl) (NoPanic.normal ?_) _
                    try simp only [Exit.inBlock, Exit.then]
                    go_wp2_with fail
                    go_roundw
                    case rel => exact ⟨m + 1, k6, _, x3, y3, _, _, by omega, by simp, rfl, by omega, by omega, hPB3, ((((R.set (by show W.heap.size < w5.heap.size; omega) _).set (by show W.heap.size < w5.heap.size; omega) _).alloc _).alloc _).drew, ((((O.set (.inr (by show w3.heap.size ≤ w5.heap.size; omega)) _).set (.inr (by show w3.heap.size ≤ w5.heap.size; omega)) _).alloc _).alloc _).drew, (heap_old _ _ (by simp; omega)).trans ((heap_old _ _ (by simp; omega)).trans (set_oth (set_oth TPz (by omega)) (by omega))), (heap_old _ _ (by simp; omega)).trans ((heap_old _ _ (by simp; omega)).trans (set_oth (set_oth TAz (by omega)) (by omega))), (heap_old _ _ (by simp; omega)).trans ((heap_old _ _ (by simp; omega)).trans (setB2 Az))⟩
                    case measure => simp [intOf]; omega
                · skip
                  go_wp2_with fail
                  have hS0 : (fun w' : World => (w'.cell? ⟨w3.heap.size + 1, 0, none⟩ = some (.int .i64 x3) ∧ w'.cell? ⟨w3.heap.size + 1, 1, none⟩ = some (.int .i64 y3))) Y.drew := ⟨cellDr c0, cellDr c1⟩
                  refine wp_region_noPanic ?_
                  refine wp_region_held (S := fun w' : World => (w'.cell? ⟨w3.heap.size + 1, 0, none⟩ = some (.int .i64 x3) ∧ w'.cell? ⟨w3.heap.size + 1, 1, none⟩ = some (.int .i64 y3))) hmx ?_
                  refine wpAnyH_take (i := 0) (v := .pointer (some ⟨w3.heap.size + 1, 0, none⟩)) rfl (by kernel_rfl) (by kernel_rfl) (by kernel_rfl) (fun _ _ _ h => h) (Or.inl ⟨by rfl, by rintro w' ⟨s1, s2⟩; go_simp⟩) hS0 ?_
                  refine wpAnyH_take (i := 1) (v := .int .i64 x3) rfl (by kernel_rfl) (by kernel_rfl) (by kernel_rfl) (fun _ _ _ h => h) (Or.inl ⟨by rfl, by rintro w' ⟨s1, s2⟩; go_simp⟩) hS0 ?_
                  refine wpAnyH_take (i := 3) (v := .int .i64 3) rfl (by kernel_rfl) (by kernel_rfl) (by kernel_rfl) (fun _ _ _ h => h) (Or.inl ⟨by rfl, by rintro w' ⟨s1, s2⟩; go_simp⟩) hS0 ?_
                  refine wpAnyH_take (i := 7) (v := .pointer (some ⟨w3.heap.size + 1, 1, none⟩)) rfl (by kernel_rfl) (by kernel_rfl) (by kernel_rfl) (fun _ _ _ h => h) (Or.inl ⟨by rfl, by rintro w' ⟨s1, s2⟩; go_simp⟩) hS0 ?_
                  refine wpAnyH_take (i := 8) (v := .int .i64 y3) rfl (by kernel_rfl) (by kernel_rfl) (by kernel_rfl) (fun _ _ _ h => h) (Or.inl ⟨by rfl, by rintro w' ⟨s1, s2⟩; go_simp⟩) hS0 ?_
                  refine wpAnyH_take (i := 10) (v := .int .i64 3) rfl (by kernel_rfl) (by kernel_rfl) (by kernel_rfl) (fun _ _ _ h => h) (Or.inl ⟨by rfl, by rintro w' ⟨s1, s2⟩; go_simp⟩) hS0 ?_
                  refine wpAnyH_all (rs := [2, 9]) (by kernel_rfl) (by simp) ?_
                  intro i hi
                  have hi' : i = 2 ∨ i = 9 := by simpa using hi
                  rcases hi' with rfl | rfl
                  · skip
                    refine wpOp_now rfl (by rfl) ?_
                    go_simp
                    have hS1 : (fun w' : World => ((w'.cell? ⟨w3.heap.size + 1, 0, none⟩ = some (.int .i64 x3) ∧ w'.cell? ⟨w3.heap.size + 1, 1, none⟩ = some (.int .i64 y3)) ∧ w'.cell? ⟨Y.heap.size, 3, none⟩ = some (.int .i64 (0)))) (Y.alloc (.cells #[.int .i64 1, .int .i64 0, .int .i64 (-1), .int .i64 0] 3)).drew := ⟨⟨cellDr (cellAl c0), cellDr (cellAl c1)⟩, by go_simp⟩
                    refine anyH_mono (S' := fun w' : World => ((w'.cell? ⟨w3.heap.size + 1, 0, none⟩ = some (.int .i64 x3) ∧ w'.cell? ⟨w3.heap.size + 1, 1, none⟩ = some (.int .i64 y3)) ∧ w'.cell? ⟨Y.heap.size, 3, none⟩ = some (.int .i64 (0)))) (fun _ h => h.1) _ _ _ _ ?_
                    refine wpAnyH_take (i := 4) (v := .pointer (some ⟨Y.heap.size, 3, none⟩)) rfl (by kernel_rfl) (by kernel_rfl) (by kernel_rfl) (fun _ _ _ h => h) (Or.inl ⟨by rfl, by rintro w' ⟨⟨s1, s2⟩, s3⟩; go_simp⟩) hS1 ?_
                    refine wpAnyH_take (i := 5) (v := .int .i64 (0)) rfl (by kernel_rfl) (by kernel_rfl) (by kernel_rfl) (fun _ _ _ h => h) (Or.inl ⟨by rfl, by rintro w' ⟨⟨s1, s2⟩, s3⟩; go_simp⟩) hS1 ?_
                    refine wpAnyH_take (i := 6) (v := .int .i64 (IntKind.i64.wrap x3)) rfl (by kernel_rfl) (by kernel_rfl) (by kernel_rfl) (fun _ _ _ h => h) (Or.inl ⟨by rfl, by rintro w' ⟨⟨s1, s2⟩, s3⟩; go_simp⟩) hS1 ?_
                    refine wpAnyH_all (rs := [9]) (by kernel_rfl) (by simp) ?_
                    intro i hi
                    obtain rfl : i = 9 := by simpa using hi
                    refine wpOp_now rfl (by rfl) ?_
                    go_simp
                    have hS2 : (fun w' : World => (((w'.cell? ⟨w3.heap.size + 1, 0, none⟩ = some (.int .i64 x3) ∧ w'.cell? ⟨w3.heap.size + 1, 1, none⟩ = some (.int .i64 y3)) ∧ w'.cell? ⟨Y.heap.size, 3, none⟩ = some (.int .i64 (0))) ∧ w'.cell? ⟨Y.heap.size + 1, 3, none⟩ = some (.int .i64 (-1)))) ((Y.alloc (.cells #[.int .i64 1, .int .i64 0, .int .i64 (-1), .int .i64 0] 3)).alloc (.cells #[.int .i64 0, .int .i64 1, .int .i64 0, .int .i64 (-1)] 3)).drew := ⟨⟨⟨cellDr (cellAl (cellAl c0)), cellDr (cellAl (cellAl c1))⟩, by go_simp⟩, by go_simp⟩
                    first | refine ⟨⟨cellAl (cellAl c0), cellAl (cellAl c1)⟩, ?_⟩ | refine ⟨cellAl (cellAl c0), cellAl (cellAl c1), ?_⟩ | skip
                    refine anyH_mono (S' := fun w' : World => (((w'.cell? ⟨w3.heap.size + 1, 0, none⟩ = some (.int .i64 x3) ∧ w'.cell? ⟨w3.heap.size + 1, 1, none⟩ = some (.int .i64 y3)) ∧ w'.cell? ⟨Y.heap.size, 3, none⟩ = some (.int .i64 (0))) ∧ w'.cell? ⟨Y.heap.size + 1, 3, none⟩ = some (.int .i64 (-1)))) (fun _ h => h.1) _ _ _ _ ?_
                    refine wpAnyH_take (i := 11) (v := .pointer (some ⟨Y.heap.size + 1, 3, none⟩)) rfl (by kernel_rfl) (by kernel_rfl) (by kernel_rfl) (fun _ _ _ h => h) (Or.inl ⟨by rfl, by rintro w' ⟨⟨⟨s1, s2⟩, s3⟩, s4⟩; go_simp⟩) hS2 ?_
                    refine wpAnyH_take (i := 12) (v := .int .i64 (-1)) rfl (by kernel_rfl) (by kernel_rfl) (by kernel_rfl) (fun _ _ _ h => h) (Or.inl ⟨by rfl, by rintro w' ⟨⟨⟨s1, s2⟩, s3⟩, s4⟩; go_simp⟩) hS2 ?_
                    refine wpAnyH_take (i := 13) (v := .int .i64 (IntKind.i64.wrap (y3 + -1))) rfl (by kernel_rfl) (by kernel_rfl) (by kernel_rfl) (fun _ _ _ h => h) (Or.inl ⟨by rfl, by rintro w' ⟨⟨⟨s1, s2⟩, s3⟩, s4⟩; go_simp⟩) hS2 ?_
                    refine wpAnyH_take (i := 14) (v := .agg #[.int .i64 (IntKind.i64.wrap x3), .int .i64 (IntKind.i64.wrap (y3 + -1))]) rfl (by kernel_rfl) (by kernel_rfl) (by kernel_rfl) (fun _ _ _ h => h) (Or.inl ⟨by rfl, by rintro w' ⟨⟨⟨s1, s2⟩, s3⟩, s4⟩; go_simp⟩) hS2 ?_
                    refine wpAnyH_all (rs := [15]) (by kernel_rfl) (by simp) ?_
                    intro i hi
                    obtain rfl : i = 15 := by simpa using hi
                    refine wpOp_now rfl (by rfl) ?_
                    go_simp
                    clear hS0 hS1 hS2
                    first | refine ⟨⟨cellAl (cellAl (cellS2 c0 hne9)), cellAl (cellAl (cellS2 c1 hne9))⟩, ?_⟩ | refine ⟨cellAl (cellAl (cellS2 c0 hne9)), cellAl (cellAl (cellS2 c1 hne9)), ?_⟩ | skip
                    refine wpAnyH_done (by kernel_rfl) (NoPanic.normal ?_) _
                    try simp only [Exit.inBlock, Exit.then]
                    go_wp2_with fail
                    go_roundw
                    case rel => exact ⟨m + 1, k6, _, x3, y3, _, _, by omega, by simp, rfl, by omega, by omega, hPB3, ((((R.set (by show W.heap.size < w5.heap.size; omega) _).set (by show W.heap.size < w5.heap.size; omega) _).alloc _).alloc _).drew, ((((O.set (.inr (by show w3.heap.size ≤ w5.heap.size; omega)) _).set (.inr (by show w3.heap.size ≤ w5.heap.size; omega)) _).alloc _).alloc _).drew, (heap_old _ _ (by simp; omega)).trans ((heap_old _ _ (by simp; omega)).trans (set_oth (set_oth TPz (by omega)) (by omega))), (heap_old _ _ (by simp; omega)).trans ((heap_old _ _ (by simp; omega)).trans (set_oth (set_oth TAz (by omega)) (by omega))), (heap_old _ _ (by simp; omega)).trans ((heap_old _ _ (by simp; omega)).trans (setB2 Az))⟩
                    case measure => simp [intOf]; omega
                  · skip
                    refine wpOp_now rfl (by rfl) ?_
                    go_simp
                    have hS1 : (fun w' : World => ((w'.cell? ⟨w3.heap.size + 1, 0, none⟩ = some (.int .i64 x3) ∧ w'.cell? ⟨w3.heap.size + 1, 1, none⟩ = some (.int .i64 y3)) ∧ w'.cell? ⟨Y.heap.size, 3, none⟩ = some (.int .i64 (-1)))) (Y.alloc (.cells #[.int .i64 0, .int .i64 1, .int .i64 0, .int .i64 (-1)] 3)).drew := ⟨⟨cellDr (cellAl c0), cellDr (cellAl c1)⟩, by go_simp⟩
                    refine anyH_mono (S' := fun w' : World => ((w'.cell? ⟨w3.heap.size + 1, 0, none⟩ = some (.int .i64 x3) ∧ w'.cell? ⟨w3.heap.size + 1, 1, none⟩ = some (.int .i64 y3)) ∧ w'.cell? ⟨Y.heap.size, 3, none⟩ = some (.int .i64 (-1)))) (fun _ h => h.1) _ _ _ _ ?_
                    refine wpAnyH_take (i := 11) (v := .pointer (some ⟨Y.heap.size, 3, none⟩)) rfl (by kernel_rfl) (by kernel_rfl) (by kernel_rfl) (fun _ _ _ h => h) (Or.inl ⟨by rfl, by rintro w' ⟨⟨s1, s2⟩, s3⟩; go_simp⟩) hS1 ?_
                    refine wpAnyH_take (i := 12) (v := .int .i64 (-1)) rfl (by kernel_rfl) (by kernel_rfl) (by kernel_rfl) (fun _ _ _ h => h) (Or.inl ⟨by rfl, by rintro w' ⟨⟨s1, s2⟩, s3⟩; go_simp⟩) hS1 ?_
                    refine wpAnyH_take (i := 13) (v := .int .i64 (IntKind.i64.wrap (y3 + -1))) rfl (by kernel_rfl) (by kernel_rfl) (by kernel_rfl) (fun _ _ _ h => h) (Or.inl ⟨by rfl, by rintro w' ⟨⟨s1, s2⟩, s3⟩; go_simp⟩) hS1 ?_
                    refine wpAnyH_all (rs := [2]) (by kernel_rfl) (by simp) ?_
                    intro i hi
                    obtain rfl : i = 2 := by simpa using hi
                    refine wpOp_now rfl (by rfl) ?_
                    go_simp
                    have hS2 : (fun w' : World => (((w'.cell? ⟨w3.heap.size + 1, 0, none⟩ = some (.int .i64 x3) ∧ w'.cell? ⟨w3.heap.size + 1, 1, none⟩ = some (.int .i64 y3)) ∧ w'.cell? ⟨Y.heap.size, 3, none⟩ = some (.int .i64 (-1))) ∧ w'.cell? ⟨Y.heap.size + 1, 3, none⟩ = some (.int .i64 (0)))) ((Y.alloc (.cells #[.int .i64 0, .int .i64 1, .int .i64 0, .int .i64 (-1)] 3)).alloc (.cells #[.int .i64 1, .int .i64 0, .int .i64 (-1), .int .i64 0] 3)).drew := ⟨⟨⟨cellDr (cellAl (cellAl c0)), cellDr (cellAl (cellAl c1))⟩, by go_simp⟩, by go_simp⟩
                    first | refine ⟨⟨cellAl (cellAl c0), cellAl (cellAl c1)⟩, ?_⟩ | refine ⟨cellAl (cellAl c0), cellAl (cellAl c1), ?_⟩ | skip
                    refine anyH_mono (S' := fun w' : World => (((w'.cell? ⟨w3.heap.size + 1, 0, none⟩ = some (.int .i64 x3) ∧ w'.cell? ⟨w3.heap.size + 1, 1, none⟩ = some (.int .i64 y3)) ∧ w'.cell? ⟨Y.heap.size, 3, none⟩ = some (.int .i64 (-1))) ∧ w'.cell? ⟨Y.heap.size + 1, 3, none⟩ = some (.int .i64 (0)))) (fun _ h => h.1) _ _ _ _ ?_
                    refine wpAnyH_take (i := 4) (v := .pointer (some ⟨Y.heap.size + 1, 3, none⟩)) rfl (by kernel_rfl) (by kernel_rfl) (by kernel_rfl) (fun _ _ _ h => h) (Or.inl ⟨by rfl, by rintro w' ⟨⟨⟨s1, s2⟩, s3⟩, s4⟩; go_simp⟩) hS2 ?_
                    refine wpAnyH_take (i := 5) (v := .int .i64 (0)) rfl (by kernel_rfl) (by kernel_rfl) (by kernel_rfl) (fun _ _ _ h => h) (Or.inl ⟨by rfl, by rintro w' ⟨⟨⟨s1, s2⟩, s3⟩, s4⟩; go_simp⟩) hS2 ?_
                    refine wpAnyH_take (i := 6) (v := .int .i64 (IntKind.i64.wrap x3)) rfl (by kernel_rfl) (by kernel_rfl) (by kernel_rfl) (fun _ _ _ h => h) (Or.inl ⟨by rfl, by rintro w' ⟨⟨⟨s1, s2⟩, s3⟩, s4⟩; go_simp⟩) hS2 ?_
                    refine wpAnyH_take (i := 14) (v := .agg #[.int .i64 (IntKind.i64.wrap x3), .int .i64 (IntKind.i64.wrap (y3 + -1))]) rfl (by kernel_rfl) (by kernel_rfl) (by kernel_rfl) (fun _ _ _ h => h) (Or.inl ⟨by rfl, by rintro w' ⟨⟨⟨s1, s2⟩, s3⟩, s4⟩; go_simp⟩) hS2 ?_
                    refine wpAnyH_all (rs := [15]) (by kernel_rfl) (by simp) ?_
                    intro i hi
                    obtain rfl : i = 15 := by simpa using hi
                    refine wpOp_now rfl (by rfl) ?_
                    go_simp
                    clear hS0 hS1 hS2
                    first | refine ⟨⟨cellAl (cellAl (cellS2 c0 hne9)), cellAl (cellAl (cellS2 c1 hne9))⟩, ?_⟩ | refine ⟨cellAl (cellAl (cellS2 c0 hne9)), cellAl (cellAl (cellS2 c1 hne9)), ?_⟩ | skip
                    refine wpAnyH_done (by kernel_rfl) (NoPanic.normal ?_) _
                    try simp only [Exit.inBlock, Exit.then]
                    go_wp2_with fail
                    go_roundw
                    case rel => exact ⟨m + 1, k6, _, x3, y3, _, _, by omega, by simp, rfl, by omega, by omega, hPB3, ((((R.set (by show W.heap.size < w5.heap.size; omega) _).set (by show W.heap.size < w5.heap.size; omega) _).alloc _).alloc _).drew, ((((O.set (.inr (by show w3.heap.size ≤ w5.heap.size; omega)) _).set (.inr (by show w3.heap.size ≤ w5.heap.size; omega)) _).alloc _).alloc _).drew, (heap_old _ _ (by simp; omega)).trans ((heap_old _ _ (by simp; omega)).trans (set_oth (set_oth TPz (by omega)) (by omega))), (heap_old _ _ (by simp; omega)).trans ((heap_old _ _ (by simp; omega)).trans (set_oth (set_oth TAz (by omega)) (by omega))), (heap_old _ _ (by simp; omega)).trans ((heap_old _ _ (by simp; omega)).trans (setB2 Az))⟩
                    case measure => simp [intOf]; omega
        case neg =>
          obtain rfl : m = 20 := by omega
          go_wp2_with fail
          (rw [HQ2.out]; exact ⟨rfl, ⟨_, ht', actFn (by kernel_rfl)⟩, _, _, _, _, _, R, O, TPz, TAz, Az⟩)
    case true =>
      go_wp2_with fail
      refine (pick_rd 2 kz a len cap _ _ (by omega) (by omega) R).mono ?_
      clear R
      rintro e yy ⟨q, rfl, qa, qb, R, O1⟩
      replace O := O.trans O1
      replace TP := keepO O1 TP (by omega)
      replace TA := keepO O1 TA (by omega)
      replace A := keepO O1 A (by omega)
      clear O1
      by_cases hq : q = 0
      · subst hq
        go_wp2_with fail
        obtain ⟨p0, p1⟩ := blk_2 TP
        obtain ⟨c0, c1⟩ := blk_2 TA
        obtain ⟨d0, d1⟩ := blk_2 A
        have zO := O.size
        have zA := blk_lt A
        have B1 := keepO O T (by omega)
        have B2 := keepO O T2 (by omega)
        have B3 := keepO O T3 (by omega)
        obtain ⟨a0, a1, af0, af1⟩ := blk2 B1
        obtain ⟨b0, b1, bf0, bf1⟩ := blk2 B2
        obtain ⟨e0, e1, ef0, ef1⟩ := blk2 B3
        go_wp2_with fail
        go_region_held3 (fun w' : World => (w'.cell? ⟨w3.heap.size, 0, none⟩ = some (.slice (some ⟨g, 0, none⟩) n c) ∧ w'.cell? ⟨w3.heap.size, 1, none⟩ = some (.slice (some ⟨gh, 0, none⟩) N ch)) ∧ (w'.cell? ⟨w3.heap.size + 1, 0, none⟩ = some (.int .i64 x) ∧ w'.cell? ⟨w3.heap.size + 1, 1, none⟩ = some (.int .i64 y)) ∧ (w'.cell? ⟨w5.heap.size, 0, none⟩ = some (.int .i64 x2) ∧ w'.cell? ⟨w5.heap.size, 1, none⟩ = some (.int .i64 y2))) (first | with_reducible exact ⟨⟨cellDr p0, cellDr p1⟩, ⟨cellDr c0, cellDr c1⟩, cellDr d0, cellDr d1⟩ | with_reducible exact ⟨⟨cellDr (cellS2 p0 (by dsimp only; omega)), cellDr (cellS2 p1 (by dsimp only; omega))⟩, ⟨cellDr (cellS2 c0 (by dsimp only; omega)), cellDr (cellS2 c1 (by dsimp only; omega))⟩, cellDr (cellS2 d0 (by dsimp only; omega)), cellDr (cellS2 d1 (by dsimp only; omega))⟩ | with_reducible exact ⟨⟨cellDr (cellS2 (cellS2 p0 (by dsimp only; omega)) (by dsimp only; omega)), cellDr (cellS2 (cellS2 p1 (by dsimp only; omega)) (by dsimp only; omega))⟩, ⟨cellDr (cellS2 (cellS2 c0 (by dsimp only; omega)) (by dsimp only; omega)), cellDr (cellS2 (cellS2 c1 (by dsimp only; omega)) (by dsimp only; omega))⟩, cellDr (cellS2 (cellS2 d0 (by dsimp only; omega)) (by dsimp only; omega)), cellDr (cellS2 (cellS2 d1 (by dsimp only; omega)) (by dsimp only; omega))⟩ | with_reducible exact ⟨⟨cellDr (cellS2 (cellS2 (cellS2 p0 (by dsimp only; omega)) (by dsimp only; omega)) (by dsimp only; omega)), cellDr (cellS2 (cellS2 (cellS2 p1 (by dsimp only; omega)) (by dsimp only; omega)) (by dsimp only; omega))⟩, ⟨cellDr (cellS2 (cellS2 (cellS2 c0 (by dsimp only; omega)) (by dsimp only; omega)) (by dsimp only; omega)), cellDr (cellS2 (cellS2 (cellS2 c1 (by dsimp only; omega)) (by dsimp only; omega)) (by dsimp only; omega))⟩, cellDr (cellS2 (cellS2 (cellS2 d0 (by dsimp only; omega)) (by dsimp only; omega)) (by dsimp only; omega)), cellDr (cellS2 (cellS2 (cellS2 d1 (by dsimp only; omega)) (by dsimp only; omega)) (by dsimp only; omega))⟩ | go_keep) (fail)
        replace B3 : yy.heap[w.heap.size + 1 + 1]? = _ := B3
        go_wp2_with fail
        have B1' := set_oth (b := w.heap.size + 1 + 1) (i := 1) (v := .int .i64 y) (set_oth (b := w.heap.size + 1 + 1) (i := 0) (v := .int .i64 x) (set_oth (b := w.heap.size + 1) (i := 1) (v := .int .i64 y2) (set_oth (b := w.heap.size + 1) (i := 0) (v := .int .i64 x2) (setB2 (u0 := .slice (some ⟨g, 0, none⟩) n c) (u1 := .slice (some ⟨gh, 0, none⟩) N ch) B1) (by omega)) (by omega)) (by omega)) (by omega)
        have B2' := set_oth (b := w.heap.size + 1 + 1) (i := 1) (v := .int .i64 y) (set_oth (b := w.heap.size + 1 + 1) (i := 0) (v := .int .i64 x) (setB2 (u0 := .int .i64 x2) (u1 := .int .i64 y2) (set_oth (b := w.heap.size) (i := 1) (v := .slice (some ⟨gh, 0, none⟩) N ch) (set_oth (b := w.heap.size) (i := 0) (v := .slice (some ⟨g, 0, none⟩) n c) B2 (by omega)) (by omega))) (by omega)) (by omega)
        have B3' := setB2 (u0 := .int .i64 x) (u1 := .int .i64 y) (set_oth (b := w.heap.size + 1) (i := 1) (v := .int .i64 y2) (set_oth (b := w.heap.size + 1) (i := 0) (v := .int .i64 x2) (set_oth (b := w.heap.size) (i := 1) (v := .slice (some ⟨gh, 0, none⟩) N ch) (set_oth (b := w.heap.size) (i := 0) (v := .slice (some ⟨g, 0, none⟩) n c) B3 (by omega)) (by omega)) (by omega)) (by omega))
        obtain ⟨r0, r1, _, _⟩ := blk2 B1'
        obtain ⟨r2, r3, _, _⟩ := blk2 B2'
        obtain ⟨r4, r5, _, _⟩ := blk2 B3'
        have hDz := hD.only O (by omega)
        have hstz := hst
        rw [HN.out] at hDz hstz
        refine bodyPost_ret (v := .tuple #[.agg #[.slice (some ⟨g, 0, none⟩) n c, .slice (some ⟨gh, 0, none⟩) N ch], .int .i64 t, .agg #[.int .i64 x2, .int .i64 y2], .agg #[.int .i64 x, .int .i64 y]]) (by simp [results, Tryz.results27, go_sem, r0, r1, r2, r3, r4, r5]) rfl ?_
        refine ⟨⟨g, n, c, l⟩, _, hs, t, x2, y2, x, y, rfl, ht, ?_, ⟨hs3, hstz⟩, ?_⟩
        · exact ((((((((hDz.set (by omega) _).set (by omega) _).set (by omega) _).set (by omega) _).set (by omega) _).set (by omega) _).only (Only.drew (Only.refl W.heap.size _)) (by omega)).mono (by omega))
        · exact (((((((K.trans (O.below' (B := w.heap.size) (by omega) (by have := K.size; omega))).setCell (p := ⟨w.heap.size, 0, none⟩) (Nat.le_refl _) _).setCell (p := ⟨w.heap.size, 1, none⟩) (Nat.le_refl _) _).setCell (p := ⟨w.heap.size + 1, 0, none⟩) (Nat.le_succ _) _).setCell (p := ⟨w.heap.size + 1, 1, none⟩) (Nat.le_succ _) _).setCell (p := ⟨w.heap.size + 1 + 1, 0, none⟩) (by show w.heap.size ≤ w.heap.size + 1 + 1; omega) _).setCell (p := ⟨w.heap.size + 1 + 1, 1, none⟩) (by show w.heap.size ≤ w.heap.size + 1 + 1; omega) _).drew
      · have hq' : (q == 0) = false := by simpa using hq
        go_wp2_with fail
        obtain ⟨Q2, HQ2⟩ : ∃ Q2 : Exit → Act → World → Prop, Hid (Q2 = (fun e a' w' => e = .exit 2 ∧ (∃ (t' : Int), (-1 ≤ t' ∧ t' ≤ 10) ∧ ∃ (v : Nat → Value), a' = { tmps := #[Value.slice a len0 cap, undef, .pointer (some ⟨w.heap.size, 0, none⟩), .int .i64 0, .pointer (some ⟨w.heap.size + 1, 0, none⟩), .pointer (some ⟨w.heap.size + 1 + 1, 0, none⟩), .pointer (some ⟨W.heap.size, 0, none⟩), .pointer (some ⟨w3.heap.size, 0, none⟩), .int .i64 t', .pointer (some ⟨w3.heap.size + 1, 0, none⟩), .pointer (some ⟨w5.heap.size, 0, none⟩), v 11, v 12, v 13, v 14, v 15, v 16, v 17, v 18, v 19, v 20, v 21, v 22, v 23, v 24, v 25, v 26, v 27, v 28, v 29, v 30, v 31, v 32, v 33, v 34, v 35, v 36, v 37, v 38, v 39, v 40, v 41, v 42, v 43, v 44, v 45, v 46, v 47, v 48, v 49, v 50, v 51, v 52, v 53, v 54, v 55, v 56, v 57, v 58, v 59, v 60, v 61, v 62, v 63, v 64, v 65, v 66, v 67, v 68, v 69, v 70, v 71, v 72, v 73, v 74, v 75, v 76, v 77, v 78, v 79, v 80, v 81, v 82, v 83, v 84, v 85, v 86, v 87, v 88, v 89, v 90, v 91, v 92, v 93, v 94, v 95, v 96, v 97, v 98, v 99, v 100, v 101, v 102, v 103, v 104, v 105, v 106, v 107, v 108, v 109, v 110, v 111, v 112, v 113, v 114, v 115, v 116, v 117, v 118, v 119], defers := [] }) ∧ ∃ (kk : Nat) (x1 y1 x2 y2 : Int), Rd w' W.heap.size kk a len cap ∧ Only W.heap.size w3 w' ∧ w'.heap[w3.heap.size]? = some (.cells #[.slice (some ⟨g, 0, none⟩) n c, .slice (some ⟨gh, 0, none⟩) N ch] 33 (0, 0)) ∧ w'.heap[w3.heap.size + 1]? = some (.cells #[.int .i64 x1, .int .i64 y1] 35) ∧ w'.heap[w5.heap.size]? = some (.cells #[.int .i64 x2, .int .i64 y2] 35))) := ⟨_, rfl⟩
        refine Code.wp_mono (Q := Q2) ?_ ?_
        case refine_1 =>
          intro e a' w' hq2
          rw [HQ2.out] at hq2
          clear HQ2
          obtain ⟨rfl, ⟨t', ht', v, rfl⟩, kk, x1, y1, x2, y2, R, O, TP, TA, A⟩ := hq2
          simp only [Exit.inBlock, ↓reduceIte]
          obtain ⟨p0, p1⟩ := blk_2 TP
          obtain ⟨c0, c1⟩ := blk_2 TA
          obtain ⟨d0, d1⟩ := blk_2 A
          have zO := O.size
          have zA := blk_lt A
          have B1 := keepO O T (by omega)
          have B2 := keepO O T2 (by omega)
          have B3 := keepO O T3 (by omega)
          obtain ⟨a0, a1, af0, af1⟩ := blk2 B1
          obtain ⟨b0, b1, bf0, bf1⟩ := blk2 B2
          obtain ⟨e0, e1, ef0, ef1⟩ := blk2 B3
          go_wp2_with fail
          go_region_held3 (fun w' : World => (w'.cell? ⟨w3.heap.size, 0, none⟩ = some (.slice (some ⟨g, 0, none⟩) n c) ∧ w'.cell? ⟨w3.heap.size, 1, none⟩ = some (.slice (some ⟨gh, 0, none⟩) N ch)) ∧ (w'.cell? ⟨w3.heap.size + 1, 0, none⟩ = some (.int .i64 x1) ∧ w'.cell? ⟨w3.heap.size + 1, 1, none⟩ = some (.int .i64 y1)) ∧ (w'.cell? ⟨w5.heap.size, 0, none⟩ = some (.int .i64 x2) ∧ w'.cell? ⟨w5.heap.size, 1, none⟩ = some (.int .i64 y2))) (first | with_reducible exact ⟨⟨cellDr p0, cellDr p1⟩, ⟨cellDr c0, cellDr c1⟩, cellDr d0, cellDr d1⟩ | with_reducible exact ⟨⟨cellDr (cellS2 p0 (by dsimp only; omega)), cellDr (cellS2 p1 (by dsimp only; omega))⟩, ⟨cellDr (cellS2 c0 (by dsimp only; omega)), cellDr (cellS2 c1 (by dsimp only; omega))⟩, cellDr (cellS2 d0 (by dsimp only; omega)), cellDr (cellS2 d1 (by dsimp only; omega))⟩ | with_reducible exact ⟨⟨cellDr (cellS2 (cellS2 p0 (by dsimp only; omega)) (by dsimp only; omega)), cellDr (cellS2 (cellS2 p1 (by dsimp only; omega)) (by dsimp only; omega))⟩, ⟨cellDr (cellS2 (cellS2 c0 (by dsimp only; omega)) (by dsimp only; omega)), cellDr (cellS2 (cellS2 c1 (by dsimp only; omega)) (by dsimp only; omega))⟩, cellDr (cellS2 (cellS2 d0 (by dsimp only; omega)) (by dsimp only; omega)), cellDr (cellS2 (cellS2 d1 (by dsimp only; omega)) (by dsimp only; omega))⟩ | with_reducible exact ⟨⟨cellDr (cellS2 (cellS2 (cellS2 p0 (by dsimp only; omega)) (by dsimp only; omega)) (by dsimp only; omega)), cellDr (cellS2 (cellS2 (cellS2 p1 (by dsimp only; omega)) (by dsimp only; omega)) (by dsimp only; omega))⟩, ⟨cellDr (cellS2 (cellS2 (cellS2 c0 (by dsimp only; omega)) (by dsimp only; omega)) (by dsimp only; omega)), cellDr (cellS2 (cellS2 (cellS2 c1 (by dsimp only; omega)) (by dsimp only; omega)) (by dsimp only; omega))⟩, cellDr (cellS2 (cellS2 (cellS2 d0 (by dsimp only; omega)) (by dsimp only; omega)) (by dsimp only; omega)), cellDr (cellS2 (cellS2 (cellS2 d1 (by dsimp only; omega)) (by dsimp only; omega)) (by dsimp only; omega))⟩ | go_keep) (fail)
          replace B3 : w'.heap[w.heap.size + 1 + 1]? = _ := B3
          go_wp2_with fail
          have B1' := set_oth (b := w.heap.size + 1 + 1) (i := 1) (v := .int .i64 y2) (set_oth (b := w.heap.size + 1 + 1) (i := 0) (v := .int .i64 x2) (set_oth (b := w.heap.size + 1) (i := 1) (v := .int .i64 y1) (set_oth (b := w.heap.size + 1) (i := 0) (v := .int .i64 x1) (setB2 (u0 := .slice (some ⟨g, 0, none⟩) n c) (u1 := .slice (some ⟨gh, 0, none⟩) N ch) B1) (by omega)) (by omega)) (by omega)) (by omega)
          have B2' := set_oth (b := w.heap.size + 1 + 1) (i := 1) (v := .int .i64 y2) (set_oth (b := w.heap.size + 1 + 1) (i := 0) (v := .int .i64 x2) (setB2 (u0 := .int .i64 x1) (u1 := .int .i64 y1) (set_oth (b := w.heap.size) (i := 1) (v := .slice (some ⟨gh, 0, none⟩) N ch) (set_oth (b := w.heap.size) (i := 0) (v := .slice (some ⟨g, 0, none⟩) n c) B2 (by omega)) (by omega))) (by omega)) (by omega)
          have B3' := setB2 (u0 := .int .i64 x2) (u1 := .int .i64 y2) (set_oth (b := w.heap.size + 1) (i := 1) (v := .int .i64 y1) (set_oth (b := w.heap.size + 1) (i := 0) (v := .int .i64 x1) (set_oth (b := w.heap.size) (i := 1) (v := .slice (some ⟨gh, 0, none⟩) N ch) (set_oth (b := w.heap.size) (i := 0) (v := .slice (some ⟨g, 0, none⟩) n c) B3 (by omega)) (by omega)) (by omega)) (by omega))
          obtain ⟨r0, r1, _, _⟩ := blk2 B1'
          obtain ⟨r2, r3, _, _⟩ := blk2 B2'
          obtain ⟨r4, r5, _, _⟩ := blk2 B3'
          have hDz := hD.only O (by omega)
          have hstz := hst
          rw [HN.out] at hDz hstz
          refine bodyPost_ret (v := .tuple #[.agg #[.slice (some ⟨g, 0, none⟩) n c, .slice (some ⟨gh, 0, none⟩) N ch], .int .i64 t', .agg #[.int .i64 x1, .int .i64 y1], .agg #[.int .i64 x2, .int .i64 y2]]) (by simp [results, Tryz.results27, go_sem, r0, r1, r2, r3, r4, r5]) rfl ?_
          refine ⟨⟨g, n, c, l⟩, _, hs, t', x1, y1, x2, y2, rfl, ht', ?_, ⟨hs3, hstz⟩, ?_⟩
          · exact ((((((((hDz.set (by omega) _).set (by omega) _).set (by omega) _).set (by omega) _).set (by omega) _).set (by omega) _).only (Only.drew (Only.refl W.heap.size _)) (by omega)).mono (by omega))
          · exact (((((((K.trans (O.below' (B := w.heap.size) (by omega) (by have := K.size; omega))).setCell (p := ⟨w.heap.size, 0, none⟩) (Nat.le_refl _) _).setCell (p := ⟨w.heap.size, 1, none⟩) (Nat.le_refl _) _).setCell (p := ⟨w.heap.size + 1, 0, none⟩) (Nat.le_succ _) _).setCell (p := ⟨w.heap.size + 1, 1, none⟩) (Nat.le_succ _) _).setCell (p := ⟨w.heap.size + 1 + 1, 0, none⟩) (by show w.heap.size ≤ w.heap.size + 1 + 1; omega) _).setCell (p := ⟨w.heap.size + 1 + 1, 1, none⟩) (by show w.heap.size ≤ w.heap.size + 1 + 1; omega) _).drew
        go_loopw [13, 8] (fun i tv wr => ∃ (m kk : Nat) (t' x1 y1 x2 y2 : Int), m ≤ 20 ∧ i = .int .i64 m ∧ tv = .int .i64 t' ∧ (-1 ≤ t' ∧ t' ≤ 10) ∧ kk ≤ kz + 1 + m * 10 ∧ PB x1 y1 ∧ Rd wr W.heap.size kk a len cap ∧ Only W.heap.size w3 wr ∧ wr.heap[w3.heap.size]? = some (.cells #[.slice (some ⟨g, 0, none⟩) n c, .slice (some ⟨gh, 0, none⟩) N ch] 33 (0, 0)) ∧ wr.heap[w3.heap.size + 1]? = some (.cells #[.int .i64 x1, .int .i64 y1] 35) ∧ wr.heap[w5.heap.size]? = some (.cells #[.int .i64 x2, .int .i64 y2] 35)) (fun i _ _ => 20 - (intOf i).toNat)
        case atStart => exact ⟨0, kz + 1, t, x, y, _, _, by omega, rfl, rfl, ht, by omega, hPB, R, O, TP, TA, A⟩
        case round =>
          obtain ⟨m, kk, t', x1, y1, x2, y2, hm, rfl, rfl, ht', hkk, hPB1, R, O, TPz, TAz, Az⟩ := hrel
          have zO := O.size
          have zA := blk_lt Az
          have m0 : (0 : Int) ≤ (m : Int) := Int.natCast_nonneg _
          have m1 : (m : Int) ≤ 20 := by omega
          by_cases hlt : m < 20
          case pos =>
            have m2 : (m : Int) < 20 := by omega
            go_wp2_with fail
            refine (pick_rd 8 kk a len cap _ _ (by omega) (by omega) R).mono ?_
            clear R
            rintro e y1w ⟨q, rfl, qa, qb, R, O1⟩
            replace O := O.trans O1
            replace TPz := keepO O1 TPz (by omega)
            replace TAz := keepO O1 TAz (by omega)
            replace Az := keepO O1 Az (by omega)
            have z2' := O.size
            clear O1
            by_cases hq : 0 < q
            case neg =>
              go_wp2_with fail
              (rw [HQ2.out]; exact ⟨rfl, ⟨_, ht', actFn (by kernel_rfl)⟩, _, _, _, _, _, R, O, TPz, TAz, Az⟩)
            case pos =>
              obtain ⟨p0, p1⟩ := blk_2 TPz
              have hPy : Plt y1w (some ⟨g, 0, none⟩) n (some ⟨gh, 0, none⟩) N l (hs.map LoopT.l) := by have h4 := hD.only O (by omega); have e := HN.out; subst e; exact h4.plt
              have hO := sPlateOk_any (some ⟨g, 0, none⟩) (some ⟨gh, 0, none⟩) n c N ch l (hs.map LoopT.l) y1w hPy
              obtain ⟨bo, hbo⟩ : ∃ b, plV l (hs.map LoopT.l) = b := ⟨_, rfl⟩
              rw [hbo] at hO
              clear hbo hPy
              go_wp2_with fail
              refine hO.mono ?_
              rintro e y2w ⟨rfl, J⟩
              replace O := O.trans (Only.of_below J)
              replace TPz := keep J TPz
              replace TAz := keep J TAz
              replace Az := keep J Az
              replace R := R.below J
              have z3' := O.size
              clear p0 p1 hO J
              cases bo
              case false =>
                go_wp2_with fail
                (rw [HQ2.out]; exact ⟨rfl, ⟨_, ht', actFn (by kernel_rfl)⟩, _, _, _, _, _, R, O, TPz, TAz, Az⟩)
              case true =>
                obtain ⟨p0, p1⟩ := blk_2 TPz
                obtain ⟨c0, c1⟩ := blk_2 TAz
                obtain ⟨d0, d1⟩ := blk_2 Az
                have hPy : Plt y2w (some ⟨g, 0, none⟩) n (some ⟨gh, 0, none⟩) N l (hs.map LoopT.l) := by have h4 := hD.only O (by omega); have e := HN.out; subst e; exact h4.plt
                have hF := sToolMay_any (some ⟨g, 0, none⟩) (some ⟨gh, 0, none⟩) n c N ch l (hs.map LoopT.l) t' (x1, y1) (x2, y2) y2w hPy
                obtain ⟨bf, hbf⟩ : ∃ b, mayV l (hs.map LoopT.l) t' (x1, y1) (x2, y2) = b := ⟨_, rfl⟩
                rw [hbf] at hF
                clear hbf hPy
                go_wp2_with fail
                refine hF.mono ?_
                rintro e y3w ⟨rfl, J⟩
                replace O := O.trans (Only.of_below J)
                replace TPz := keep J TPz
                replace TAz := keep J TAz
                replace Az := keep J Az
                replace R := R.below J
                have z4' := O.size
                clear p0 p1 c0 c1 d0 d1 hF J
                cases bf
                case true =>
                  go_wp2_with fail
                  (rw [HQ2.out]; exact ⟨rfl, ⟨_, ht', actFn (by kernel_rfl)⟩, _, _, _, _, _, R, O, TPz, TAz, Az⟩)
                case false =>
                  go_wp2_with fail
                  refine (pick_rd 4 (kk + 1) a len cap _ _ (by omega) (by omega) R).mono ?_
                  clear R
                  rintro e y4 ⟨d, rfl, da, db, R, O1⟩
                  replace O := O.trans O1
                  replace TPz := keepO O1 TPz (by omega)
                  replace TAz := keepO O1 TAz (by omega)
                  replace Az := keepO O1 Az (by omega)
                  have z5' := O.size
                  clear O1
                  go_wp2_with fail
                  refine (pick_rd 2 (kk + 1 + 1) a len cap _ _ (by omega) (by omega) R).mono ?_
                  clear R
                  rintro e y5 ⟨q5, rfl, qa5, qb5, R, O1⟩
                  replace O := O.trans O1
                  replace TPz := keepO O1 TPz (by omega)
                  replace TAz := keepO O1 TAz (by omega)
                  replace Az := keepO O1 Az (by omega)
                  have z6' := O.size
                  clear O1
                  have hw5 : IntKind.i64.wrap (1 + q5) = 1 + q5 := wrap_small (by omega) (by omega)
                  go_wp2_with fail
                  refine (l71Pt_any (kk + 1 + 1 + 1) a len cap _ _ (by omega) R).mono ?_
                  clear R
                  rintro e y6 ⟨x3, y3, k6, rfl, hPB3, hk6, R, O1⟩
                  replace O := O.trans O1
                  replace TPz := keepO O1 TPz (by omega)
                  replace TAz := keepO O1 TAz (by omega)
                  replace Az := keepO O1 Az (by omega)
                  have z7' := O.size
                  clear O1
                  obtain ⟨c0, c1, cf0, cf1⟩ := blk2 TAz
                  have hd : d = 0 ∨ d = 1 ∨ d = 2 ∨ d = 3 := by omega
                  go_wp2_with fail
                  replace TAz := setB2 (u0 := .int .i64 x3) (u1 := .int .i64 y3) TAz
                  replace TPz := set_oth (b := w3.heap.size + 1) (i := 1) (v := .int .i64 y3) (set_oth (b := w3.heap.size + 1) (i := 0) (v := .int .i64 x3) TPz (by omega)) (by omega)
                  replace Az := set_oth (b := w3.heap.size + 1) (i := 1) (v := .int .i64 y3) (set_oth (b := w3.heap.size + 1) (i := 0) (v := .int .i64 x3) Az (by omega)) (by omega)
                  replace R := (R.set (p := ⟨w3.heap.size + 1, 0, none⟩) (by show W.heap.size < w3.heap.size + 1; omega) (.int .i64 x3)).set (p := ⟨w3.heap.size + 1, 1, none⟩) (by show W.heap.size < w3.heap.size + 1; omega) (.int .i64 y3)
                  replace O := (O.set (p := ⟨w3.heap.size + 1, 0, none⟩) (.inr (Nat.le_succ _)) (.int .i64 x3)).set (p := ⟨w3.heap.size + 1, 1, none⟩) (.inr (Nat.le_succ _)) (.int .i64 y3)
                  obtain ⟨Y, hY⟩ : ∃ Y, (y6.setCell ⟨w3.heap.size + 1, 0, none⟩ (.int .i64 x3)).setCell ⟨w3.heap.size + 1, 1, none⟩ (.int .i64 y3) = Y := ⟨_, rfl⟩
                  rw [hY] at TAz TPz Az R O ⊢
                  clear hY c0 c1 cf0 cf1 hw5
                  obtain ⟨c0, c1⟩ := blk_2 TAz
                  obtain ⟨d0, d1, df0, df1⟩ := blk2 Az
                  have zd := blk_lt Az
                  have zd1 : (w5.heap.size = Y.heap.size) = False := by simp; omega
                  have zd2 : (w5.heap.size = Y.heap.size + 1) = False := by simp; omega
                  have zc0 : w3.heap.size + 1 < Y.heap.size := by omega
                  have hne9 : w3.heap.size + 1 ≠ w5.heap.size := by omega
                  rcases hd with rfl | rfl | rfl | rfl
                  · skip
                    go_wp2_with fail
                    have hS0 : (fun w' : World => (w'.cell? ⟨w3.heap.size + 1, 0, none⟩ = some (.int .i64 x3) ∧ w'.cell? ⟨w3.heap.size + 1, 1, none⟩ = some (.int .i64 y3))) Y.drew := ⟨cellDr c0, cellDr c1⟩
                    refine wp_region_noPanic ?_
                    refine wp_region_held (S := fun w' : World => (w'.cell? ⟨w3.heap.size + 1, 0, none⟩ = some (.int .i64 x3) ∧ w'.cell? ⟨w3.heap.size + 1, 1, none⟩ = some (.int .i64 y3))) hmx ?_
                    refine wpAnyH_take (i := 0) (v := .pointer (some ⟨w3.heap.size + 1, 0, none⟩)) rfl (by kernel_rfl) (by kernel_rfl) (by kernel_rfl) (fun _ _ _ h => h) (Or.inl ⟨by rfl, by rintro w' ⟨s1, s2⟩; go_simp⟩) hS0 ?_
                    refine wpAnyH_take (i := 1) (v := .int .i64 x3) rfl (by kernel_rfl) (by kernel_rfl) (by kernel_rfl) (fun _ _ _ h => h) (Or.inl ⟨by rfl, by rintro w' ⟨s1, s2⟩; go_simp⟩) hS0 ?_
                    refine wpAnyH_take (i := 3) (v := .int .i64 0) rfl (by kernel_rfl) (by kernel_rfl) (by kernel_rfl) (fun _ _ _ h => h) (Or.inl ⟨by rfl, by rintro w' ⟨s1, s2⟩; go_simp⟩) hS0 ?_
                    refine wpAnyH_take (i := 7) (v := .pointer (some ⟨w3.heap.size + 1, 1, none⟩)) rfl (by kernel_rfl) (by kernel_rfl) (by kernel_rfl) (fun _ _ _ h => h) (Or.inl ⟨by rfl, by rintro w' ⟨s1, s2⟩; go_simp⟩) hS0 ?_
                    refine wpAnyH_take (i := 8) (v := .int .i64 y3) rfl (by kernel_rfl) (by kernel_rfl) (by kernel_rfl) (fun _ _ _ h => h) (Or.inl ⟨by rfl, by rintro w' ⟨s1, s2⟩; go_simp⟩) hS0 ?_
                    refine wpAnyH_take (i := 10) (v := .int .i64 0) rfl (by kernel_rfl) (by kernel_rfl) (by kernel_rfl) (fun _ _ _ h => h) (Or.inl ⟨by rfl, by rintro w' ⟨s1, s2⟩; go_simp⟩) hS0 ?_
                    refine wpAnyH_all (rs := [2, 9]) (by kernel_rfl) (by simp) ?_
                    intro i hi
                    have hi' : i = 2 ∨ i = 9 := by simpa using hi
                    rcases hi' with rfl | rfl
                    · skip
                      refine wpOp_now rfl (by rfl) ?_
                      go_simp
                      have hS1 : (fun w' : World => ((w'.cell? ⟨w3.heap.size + 1, 0, none⟩ = some (.int .i64 x3) ∧ w'.cell? ⟨w3.heap.size + 1, 1, none⟩ = some (.int .i64 y3)) ∧ w'.cell? ⟨Y.heap.size, 0, none⟩ = some (.int .i64 (1)))) (Y.alloc (.cells #[.int .i64 1, .int .i64 0, .int .i64 (-1), .int .i64 0] 3)).drew := ⟨⟨cellDr (cellAl c0), cellDr (cellAl c1)⟩, by go_simp⟩
                      refine anyH_mono (S' := fun w' : World => ((w'.cell? ⟨w3.heap.size + 1, 0, none⟩ = some (.int .i64 x3) ∧ w'.cell? ⟨w3.heap.size + 1, 1, none⟩ = some (.int .i64 y3)) ∧ w'.cell? ⟨Y.heap.size, 0, none⟩ = some (.int .i64 (1)))) (fun _ h => h.1) _ _ _ _ ?_
                      refine wpAnyH_take (i := 4) (v := .pointer (some ⟨Y.heap.size, 0, none⟩)) rfl (by kernel_rfl) (by kernel_rfl) (by kernel_rfl) (fun _ _ _ h => h) (Or.inl ⟨by rfl, by rintro w' ⟨⟨s1, s2⟩, s3⟩; go_simp⟩) hS1 ?_
                      refine wpAnyH_take (i := 5) (v := .int .i64 (1)) rfl (by kernel_rfl) (by kernel_rfl) (by kernel_rfl) (fun _ _ _ h => h) (Or.inl ⟨by rfl, by rintro w' ⟨⟨s1, s2⟩, s3⟩; go_simp⟩) hS1 ?_
                      refine wpAnyH_take (i := 6) (v := .int .i64 (IntKind.i64.wrap (x3 + 1))) rfl (by kernel_rfl) (by kernel_rfl) (by kernel_rfl) (fun _ _ _ h => h) (Or.inl ⟨by rfl, by rintro w' ⟨⟨s1, s2⟩, s3⟩; go_simp⟩) hS1 ?_
                      refine wpAnyH_all (rs := [9]) (by kernel_rfl) (by simp) ?_
                      intro i hi
                      obtain rfl : i = 9 := by simpa using hi
                      refine wpOp_now rfl (by rfl) ?_
                      go_simp
                      have hS2 : (fun w' : World => (((w'.cell? ⟨w3.heap.size + 1, 0, none⟩ = some (.int .i64 x3) ∧ w'.cell? ⟨w3.heap.size + 1, 1, none⟩ = some (.int .i64 y3)) ∧ w'.cell? ⟨Y.heap.size, 0, none⟩ = some (.int .i64 (1))) ∧ w'.cell? ⟨Y.heap.size + 1, 0, none⟩ = some (.int .i64 (0)))) ((Y.alloc (.cells #[.int .i64 1, .int .i64 0, .int .i64 (-1), .int .i64 0] 3)).alloc (.cells #[.int .i64 0, .int .i64 1, .int .i64 0, .int .i64 (-1)] 3)).drew := ⟨⟨⟨cellDr (cellAl (cellAl c0)), cellDr (cellAl (cellAl c1))⟩, by go_simp⟩, by go_simp⟩
                      first | refine ⟨⟨cellAl (cellAl c0), cellAl (cellAl c1)⟩, ?_⟩ | refine ⟨cellAl (cellAl c0), cellAl (cellAl c1), ?_⟩ | skip
                      refine anyH_mono (S' := fun w' : World => (((w'.cell? ⟨w3.heap.size + 1, 0, none⟩ = some (.int .i64 x3) ∧ w'.cell? ⟨w3.heap.size + 1, 1, none⟩ = some (.int .i64 y3)) ∧ w'.cell? ⟨Y.heap.size, 0, none⟩ = some (.int .i64 (1))) ∧ w'.cell? ⟨Y.heap.size + 1, 0, none⟩ = some (.int .i64 (0)))) (fun _ h => h.1) _ _ _ _ ?_
                      refine wpAnyH_take (i := 11) (v := .pointer (some ⟨Y.heap.size + 1, 0, none⟩)) rfl (by kernel_rfl) (by kernel_rfl) (by kernel_rfl) (fun _ _ _ h => h) (Or.inl ⟨by rfl, by rintro w' ⟨⟨⟨s1, s2⟩, s3⟩, s4⟩; go_simp⟩) hS2 ?_
                      refine wpAnyH_take (i := 12) (v := .int .i64 (0)) rfl (by kernel_rfl) (by kernel_rfl) (by kernel_rfl) (fun _ _ _ h => h) (Or.inl ⟨by rfl, by rintro w' ⟨⟨⟨s1, s2⟩, s3⟩, s4⟩; go_simp⟩) hS2 ?_
                      refine wpAnyH_take (i := 13) (v := .int .i64 (IntKind.i64.wrap y3)) rfl (by kernel_rfl) (by kernel_rfl) (by kernel_rfl) (fun _ _ _ h => h) (Or.inl ⟨by rfl, by rintro w' ⟨⟨⟨s1, s2⟩, s3⟩, s4⟩; go_simp⟩) hS2 ?_
                      refine wpAnyH_take (i := 14) (v := .agg #[.int .i64 (IntKind.i64.wrap (x3 + 1)), .int .i64 (IntKind.i64.wrap y3)]) rfl (by kernel_rfl) (by kernel_rfl) (by kernel_rfl) (fun _ _ _ h => h) (Or.inl ⟨by rfl, by rintro w' ⟨⟨⟨s1, s2⟩, s3⟩, s4⟩; go_simp⟩) hS2 ?_
                      refine wpAnyH_all (rs := [15]) (by kernel_rfl) (by simp) ?_
                      intro i hi
                      obtain rfl : i = 15 := by simpa using hi
                      refine wpOp_now rfl (by rfl) ?_
                      go_simp
                      clear hS0 hS1 hS2
                      first | refine ⟨⟨cellAl (cellAl (cellS2 c0 hne9)), cellAl (cellAl (cellS2 c1 hne9))⟩, ?_⟩ | refine ⟨cellAl (cellAl (cellS2 c0 hne9)), cellAl (cellAl (cellS2 c1 hne9)), ?_⟩ | skip
                      refine wpAnyH_done (by kernel_rfl) (NoPanic.normal ?_) _
                      try simp only [Exit.inBlock, Exit.then]
                      go_wp2_with fail
                      go_roundw
                      case rel => exact ⟨m + 1, k6, _, x3, y3, _, _, by omega, by simp, rfl, by omega, by omega, hPB3, ((((R.set (by show W.heap.size < w5.heap.size; omega) _).set (by show W.heap.size < w5.heap.size; omega) _).alloc _).alloc _).drew, ((((O.set (.inr (by show w3.heap.size ≤ w5.heap.size; omega)) _).set (.inr (by show w3.heap.size ≤ w5.heap.size; omega)) _).alloc _).alloc _).drew, (heap_old _ _ (by simp; omega)).trans ((heap_old _ _ (by simp; omega)).trans (set_oth (set_oth TPz (by omega)) (by omega))), (heap_old _ _ (by simp; omega)).trans ((heap_old _ _ (by simp; omega)).trans (set_oth (set_oth TAz (by omega)) (by omega))), (heap_old _ _ (by simp; omega)).trans ((heap_old _ _ (by simp; omega)).trans (setB2 Az))⟩
                      case measure => simp [intOf]; omega
                    · skip
                      refine wpOp_now rfl (by rfl) ?_
                      go_simp
                      have hS1 : (fun w' : World => ((w'.cell? ⟨w3.heap.size + 1, 0, none⟩ = some (.int .i64 x3) ∧ w'.cell? ⟨w3.heap.size + 1, 1, none⟩ = some (.int .i64 y3)) ∧ w'.cell? ⟨Y.heap.size, 0, none⟩ = some (.int .i64 (0)))) (Y.alloc (.cells #[.int .i64 0, .int .i64 1, .int .i64 0, .int .i64 (-1)] 3)).drew := ⟨⟨cellDr (cellAl c0), cellDr (cellAl c1)⟩, by go_simp⟩
                      refine anyH_mono (S' := fun w' : World => ((w'.cell? ⟨w3.heap.size + 1, 0, none⟩ = some (.int .i64 x3) ∧ w'.cell? ⟨w3.heap.size + 1, 1, none⟩ = some (.int .i64 y3)) ∧ w'.cell? ⟨Y.heap.size, 0, none⟩ = some (.int .i64 (0)))) (fun _ h => h.1) _ _ _ _ ?_
                      refine wpAnyH_take (i := 11) (v := .pointer (some ⟨Y.heap.size, 0, none⟩)) rfl (by kernel_rfl) (by kernel_rfl) (by kernel_rfl) (fun _ _ _ h => h) (Or.inl ⟨by rfl, by rintro w' ⟨⟨s1, s2⟩, s3⟩; go_simp⟩) hS1 ?_
                      refine wpAnyH_take (i := 12) (v := .int .i64 (0)) rfl (by kernel_rfl) (by kernel_rfl) (by kernel_rfl) (fun _ _ _ h => h) (Or.inl ⟨by rfl, by rintro w' ⟨⟨s1, s2⟩, s3⟩; go_simp⟩) hS1 ?_
                      refine wpAnyH_take (i := 13) (v := .int .i64 (IntKind.i64.wrap y3)) rfl (by kernel_rfl) (by kernel_rfl) (by kernel_rfl) (fun _ _ _ h => h) (Or.inl ⟨by rfl, by rintro w' ⟨⟨s1, s2⟩, s3⟩; go_simp⟩) hS1 ?_
                      refine wpAnyH_all (rs := [2]) (by kernel_rfl) (by simp) ?_
                      intro i hi
                      obtain rfl : i = 2 := by simpa using hi
                      refine wpOp_now rfl (by rfl) ?_
                      go_simp
                      have hS2 : (fun w' : World => (((w'.cell? ⟨w3.heap.size + 1, 0, none⟩ = some (.int .i64 x3) ∧ w'.cell? ⟨w3.heap.size + 1, 1, none⟩ = some (.int .i64 y3)) ∧ w'.cell? ⟨Y.heap.size, 0, none⟩ = some (.int .i64 (0))) ∧ w'.cell? ⟨Y.heap.size + 1, 0, none⟩ = some (.int .i64 (1)))) ((Y.alloc (.cells #[.int .i64 0, .int .i64 1, .int .i64 0, .int .i64 (-1)] 3)).alloc (.cells #[.int .i64 1, .int .i64 0, .int .i64 (-1), .int .i64 0] 3)).drew := ⟨⟨⟨cellDr (cellAl (cellAl c0)), cellDr (cellAl (cellAl c1))⟩, by go_simp⟩, by go_simp⟩
                      first | refine ⟨⟨cellAl (cellAl c0), cellAl (cellAl c1)⟩, ?_⟩ | refine ⟨cellAl (cellAl c0), cellAl (cellAl c1), ?_⟩ | skip
                      refine anyH_mono (S' := fun w' : World => (((w'.cell? ⟨w3.heap.size + 1, 0, none⟩ = some (.int .i64 x3) ∧ w'.cell? ⟨w3.heap.size + 1, 1, none⟩ = some (.int .i64 y3)) ∧ w'.cell? ⟨Y.heap.size, 0, none⟩ = some (.int .i64 (0))) ∧ w'.cell? ⟨Y.heap.size + 1, 0, none⟩ = some (.int .i64 (1)))) (fun _ h => h.1) _ _ _ _ ?_
                      refine wpAnyH_take (i := 4) (v := .pointer (some ⟨Y.heap.size + 1, 0, none⟩)) rfl (by kernel_rfl) (by kernel_rfl) (by kernel_rfl) (fun _ _ _ h => h) (Or.inl ⟨by rfl, by rintro w' ⟨⟨⟨s1, s2⟩, s3⟩, s4⟩; go_simp⟩) hS2 ?_
                      refine wpAnyH_take (i := 5) (v := .int .i64 (1)) rfl (by kernel_rfl) (by kernel_rfl) (by kernel_rfl) (fun _ _ _ h => h) (Or.inl ⟨by rfl, by rintro w' ⟨⟨⟨s1, s2⟩, s3⟩, s4⟩; go_simp⟩) hS2 ?_
                      refine wpAnyH_take (i := 6) (v := .int .i64 (IntKind.i64.wrap (x3 + 1))) rfl (by kernel_rfl) (by kernel_rfl) (by kernel_rfl) (fun _ _ _ h => h) (Or.inl ⟨by rfl, by rintro w' ⟨⟨⟨s1, s2⟩, s3⟩, s4⟩; go_simp⟩) hS2 ?_
                      refine wpAnyH_take (i := 14) (v := .agg #[.int .i64 (IntKind.i64.wrap (x3 + 1)), .int .i64 (IntKind.i64.wrap y3)]) rfl (by kernel_rfl) (by kernel_rfl) (by kernel_rfl) (fun _ _ _ h => h) (Or.inl ⟨by rfl, by rintro w' ⟨⟨⟨s1, s2⟩, s3⟩, s4⟩; go_simp⟩) hS2 ?_
                      refine wpAnyH_all (rs := [15]) (by kernel_rfl) (by simp) ?_
                      intro i hi
                      obtain rfl : i = 15 := by simpa using hi
                      refine wpOp_now rfl (by rfl) ?_
                      go_simp
                      clear hS0 hS1 hS2
                      first | refine ⟨⟨cellAl (cellAl (cellS2 c0 hne9)), cellAl (cellAl (cellS2 c1 hne9))⟩, ?_⟩ | refine ⟨cellAl (cellAl (cellS2 c0 hne9)), cellAl (cellAl (cellS2 c1 hne9)), ?_⟩ | skip
                      refine wpAnyH_done (by kernel_rfl) (NoPanic.normal ?_) _
                      try simp only [Exit.inBlock, Exit.then]
                      go_wp2_with fail
                      go_roundw
                      case rel => exact ⟨m + 1, k6, _, x3, y3, _, _, by omega, by simp, rfl, by omega, by omega, hPB3, ((((R.set (by show W.heap.size < w5.heap.size; omega) _).set (by show W.heap.size < w5.heap.size; omega) _).alloc _).alloc _).drew, ((((O.set (.inr (by show w3.heap.size ≤ w5.heap.size; omega)) _).set (.inr (by show w3.heap.size ≤ w5.heap.size; omega)) _).alloc _).alloc _).drew, (heap_old _ _ (by simp; omega)).trans ((heap_old _ _ (by simp; omega)).trans (set_oth (set_oth TPz (by omega)) (by omega))), (heap_old _ _ (by simp; omega)).trans ((heap_old _ _ (by simp; omega)).trans (set_oth (set_oth TAz (by omega)) (by omega))), (heap_old _ _ (by simp; omega)).trans ((heap_old _ _ (by simp; omega)).trans (setB2 Az))⟩
                      case measure => simp [intOf]; omega
                  · skip
                    go_wp2_with fail
                    have hS0 : (fun w' : World => (w'.cell? ⟨w3.heap.size + 1, 0, none⟩ = some (.int .i64 x3) ∧ w'.cell? ⟨w3.heap.size + 1, 1, none⟩ = some (.int .i64 y3))) Y.drew := ⟨cellDr c0, cellDr c1⟩
                    refine wp_region_noPanic ?_
                    refine wp_region_held (S := fun w' : World => (w'.cell? ⟨w3.heap.size + 1, 0, none⟩ = some (.int .i64 x3) ∧ w'.cell? ⟨w3.heap.size + 1, 1, none⟩ = some (.int .i64 y3))) hmx ?_
                    refine wpAnyH_take (i := 0) (v := .pointer (some ⟨w3.heap.size + 1, 0, none⟩)) rfl (by kernel_rfl) (by kernel_rfl) (by kernel_rfl) (fun _ _ _ h => h) (Or.inl ⟨by rfl, by rintro w' ⟨s1, s2⟩; go_simp⟩) hS0 ?_
                    refine wpAnyH_take (i := 1) (v := .int .i64 x3) rfl (by kernel_rfl) (by kernel_rfl) (by kernel_rfl) (fun _ _ _ h => h) (Or.inl ⟨by rfl, by rintro w' ⟨s1, s2⟩; go_simp⟩) hS0 ?_
                    refine wpAnyH_take (i := 3) (v := .int .i64 1) rfl (by kernel_rfl) (by kernel_rfl) (by kernel_rfl) (fun _ _ _ h => h) (Or.inl ⟨by rfl, by rintro w' ⟨s1, s2⟩; go_simp⟩) hS0 ?_
                    refine wpAnyH_take (i := 7) (v := .pointer (some ⟨w3.heap.size + 1, 1, none⟩)) rfl (by kernel_rfl) (by kernel_rfl) (by kernel_rfl) (fun _ _ _ h => h) (Or.inl ⟨by rfl, by rintro w' ⟨s1, s2⟩; go_simp⟩) hS0 ?_
                    refine wpAnyH_take (i := 8) (v := .int .i64 y3) rfl (by kernel_rfl) (by kernel_rfl) (by kernel_rfl) (fun _ _ _ h => h) (Or.inl ⟨by rfl, by rintro w' ⟨s1, s2⟩; go_simp⟩) hS0 ?_
                    refine wpAnyH_take (i := 10) (v := .int .i64 1) rfl (by kernel_rfl) (by kernel_rfl) (by kernel_rfl) (fun _ _ _ h => h) (Or.inl ⟨by rfl, by rintro w' ⟨s1, s2⟩; go_simp⟩) hS0 ?_
                    refine wpAnyH_all (rs := [2, 9]) (by kernel_rfl) (by simp) ?_
                    intro i hi
                    have hi' : i = 2 ∨ i = 9 := by simpa using hi
                    rcases hi' with rfl | rfl
                    · skip
                      refine wpOp_now rfl (by rfl) ?_
                      go_simp
                      have hS1 : (fun w' : World => ((w'.cell? ⟨w3.heap.size + 1, 0, none⟩ = some (.int .i64 x3) ∧ w'.cell? ⟨w3.heap.size + 1, 1, none⟩ = some (.int .i64 y3)) ∧ w'.cell? ⟨Y.heap.size, 1, none⟩ = some (.int .i64 (0)))) (Y.alloc (.cells #[.int .i64 1, .int .i64 0, .int .i64 (-1), .int .i64 0] 3)).drew := ⟨⟨cellDr (cellAl c0), cellDr (cellAl c1)⟩, by go_simp⟩
                      refine anyH_mono (S' := fun w' : World => ((w'.cell? ⟨w3.heap.size + 1, 0, none⟩ = some (.int .i64 x3) ∧ w'.cell? ⟨w3.heap.size + 1, 1, none⟩ = some (.int .i64 y3)) ∧ w'.cell? ⟨Y.heap.size, 1, none⟩ = some (.int .i64 (0)))) (fun _ h => h.1) _ _ _ _ ?_
                      refine wpAnyH_take (i := 4) (v := .pointer (some ⟨Y.heap.size, 1, none⟩)) rfl (by kernel_rfl) (by kernel_rfl) (by kernel_rfl) (fun _ _ _ h => h) (Or.inl ⟨by rfl, by rintro w' ⟨⟨s1, s2⟩, s3⟩; go_simp⟩) hS1 ?_
                      refine wpAnyH_take (i := 5) (v := .int .i64 (0)) rfl (by kernel_rfl) (by kernel_rfl) (by kernel_rfl) (fun _ _ _ h => h) (Or.inl ⟨by rfl, by rintro w' ⟨⟨s1, s2⟩, s3⟩; go_simp⟩) hS1 ?_
                      refine wpAnyH_take (i := 6) (v := .int .i64 (IntKind.i64.wrap x3)) rfl (by kernel_rfl) (by kernel_rfl) (by kernel_rfl) (fun _ _ _ h => h) (Or.inl ⟨by rfl, by rintro w' ⟨⟨s1, s2⟩, s3⟩; go_simp⟩) hS1 ?_
                      refine wpAnyH_all (rs := [9]) (by kernel_rfl) (by simp) ?_
                      intro i hi
                      obtain rfl : i = 9 := by simpa using hi
                      refine wpOp_now rfl (by rfl) ?_
                      go_simp
                      have hS2 : (fun w' : World => (((w'.cell? ⟨w3.heap.size + 1, 0, none⟩ = some (.int .i64 x3) ∧ w'.cell? ⟨w3.heap.size + 1, 1, none⟩ = some (.int .i64 y3)) ∧ w'.cell? ⟨Y.heap.size, 1, none⟩ = some (.int .i64 (0))) ∧ w'.cell? ⟨Y.heap.size + 1, 1, none⟩ = some (.int .i64 (1)))) ((Y.alloc (.cells #[.int .i64 1, .int .i64 0, .int .i64 (-1), .int .i64 0] 3)).alloc (.cells #[.int .i64 0, .int .i64 1, .int .i64 0, .int .i64 (-1)] 3)).drew := ⟨⟨⟨cellDr (cellAl (cellAl c0)), cellDr (cellAl (cellAl c1))⟩, by go_simp⟩, by go_simp⟩
                      first | refine ⟨⟨cellAl (cellAl c0), cellAl (cellAl c1)⟩, ?_⟩ | refine ⟨cellAl (cellAl c0), cellAl (cellAl c1), ?_⟩ | skip
                      refine anyH_mono (S' := fun w' : World => (((w'.cell? ⟨w3.heap.size + 1, 0, none⟩ = some (.int .i64 x3) ∧ w'.cell? ⟨w3.heap.size + 1, 1, none⟩ = some (.int .i64 y3)) ∧ w'.cell? ⟨Y.heap.size, 1, none⟩ = some (.int .i64 (0))) ∧ w'.cell? ⟨Y.heap.size + 1, 1, none⟩ = some (.int .i64 (1)))) (fun _ h => h.1) _ _ _ _ ?_
                      refine wpAnyH_take (i := 11) (v := .pointer (some ⟨Y.heap.size + 1, 1, none⟩)) rfl (by kernel_rfl) (by kernel_rfl) (by kernel_rfl) (fun _ _ _ h => h) (Or.inl ⟨by rfl, by rintro w' ⟨⟨⟨s1, s2⟩, s3⟩, s4⟩; go_simp⟩) hS2 ?_
                      refine wpAnyH_take (i := 12) (v := .int .i64 (1)) rfl (by kernel_rfl) (by kernel_rfl) (by kernel_rfl) (fun _ _ _ h => h) (Or.inl ⟨by rfl, by rintro w' ⟨⟨⟨s1, s2⟩, s3⟩, s4⟩; go_simp⟩) hS2 ?_
                      refine wpAnyH_take (i := 13) (v := .int .i64 (IntKind.i64.wrap (y3 + 1))) rfl (by kernel_rfl) (by kernel_rfl) (by kernel_rfl) (fun _ _ _ h => h) (Or.inl ⟨by rfl, by rintro w' ⟨⟨⟨s1, s2⟩, s3⟩, s4⟩; go_simp⟩) hS2 ?_
                      refine wpAnyH_take (i := 14) (v := .agg #[.int .i64 (IntKind.i64.wrap x3), .int .i64 (IntKind.i64.wrap (y3 + 1))]) rfl (by kernel_rfl) (by kernel_rfl) (by kernel_rfl) (fun _ _ _ h => h) (Or.inl ⟨by rfl, by rintro w' ⟨⟨⟨s1, s2⟩, s3⟩, s4⟩; go_simp⟩) hS2 ?_
                      refine wpAnyH_all (rs := [15]) (by kernel_rfl) (by simp) ?_
                      intro i hi
                      obtain rfl : i = 15 := by simpa using hi
                      refine wpOp_now rfl (by rfl) ?_
                      go_simp
                      clear hS0 hS1 hS2
                      first | refine ⟨⟨cellAl (cellAl (cellS2 c0 hne9)), cellAl (cellAl (cellS2 c1 hne9))⟩, ?_⟩ | refine ⟨cellAl (cellAl (cellS2 c0 hne9)), cellAl (cellAl (cellS2 c1 hne9)), ?_⟩ | skip
                      refine wpAnyH_done (by kernel_rfl) (NoPanic.normal ?_) _
                      try simp only [Exit.inBlock, Exit.then]
                      go_wp2_with fail
                      go_roundw
                      case rel => exact ⟨m + 1, k6, _, x3, y3, _, _, by omega, by simp, rfl, by omega, by omega, hPB3, ((((R.set (by show W.heap.size < w5.heap.size; omega) _).set (by show W.heap.size < w5.heap.size; omega) _).alloc _).alloc _).drew, ((((O.set (.inr (by show w3.heap.size ≤ w5.heap.size; omega)) _).set (.inr (by show w3.heap.size ≤ w5.heap.size; omega)) _).alloc _).alloc _).drew, (heap_old _ _ (by simp; omega)).trans ((heap_old _ _ (by simp; omega)).trans (set_oth (set_oth TPz (by omega)) (by omega))), (heap_old _ _ (by simp; omega)).trans ((heap_old _ _ (by simp; omega)).trans (set_oth (set_oth TAz (by omega)) (by omega))), (heap_old _ _ (by simp; omega)).trans ((heap_old _ _ (by simp; omega)).trans (setB2 Az))⟩
                      case measure => simp [intOf]; omega
                    · skip
                      refine wpOp_now rfl (by rfl) ?_
                      go_simp
                      have hS1 : (fun w' : World => ((w'.cell? ⟨w3.heap.size + 1, 0, none⟩ = some (.int .i64 x3) ∧ w'.cell? ⟨w3.heap.size + 1, 1, none⟩ = some (.int .i64 y3)) ∧ w'.cell? ⟨Y.heap.size, 1, none⟩ = some (.int .i64 (1)))) (Y.alloc (.cells #[.int .i64 0, .int .i64 1, .int .i64 0, .int .i64 (-1)] 3)).drew := ⟨⟨cellDr (cellAl c0), cellDr (cellAl c1)⟩, by go_simp⟩
                      refine anyH_mono (S' := fun w' : World => ((w'.cell? ⟨w3.heap.size + 1, 0, none⟩ = some (.int .i64 x3) ∧ w'.cell? ⟨w3.heap.size + 1, 1, none⟩ = some (.int .i64 y3)) ∧ w'.cell? ⟨Y.heap.size, 1, none⟩ = some (.int .i64 (1)))) (fun _ h => h.1) _ _ _ _ ?_
                      refine wpAnyH_take (i := 11) (v := .pointer (some ⟨Y.heap.size, 1, none⟩)) rfl (by kernel_rfl) (by kernel_rfl) (by kernel_rfl) (fun _ _ _ h => h) (Or.inl ⟨by rfl, by rintro w' ⟨⟨s1, s2⟩, s3⟩; go_simp⟩) hS1 ?_
                      refine wpAnyH_take (i := 12) (v := .int .i64 (1)) rfl (by kernel_rfl) (by kernel_rfl) (by kernel_rfl) (fun _ _ _ h => h) (Or.inl ⟨by rfl, by rintro w' ⟨⟨s1, s2⟩, s3⟩; go_simp⟩) hS1 ?_
                      refine wpAnyH_take (i := 13) (v := .int .i64 (IntKind.i64.wrap (y3 + 1))) rfl (by kernel_rfl) (by kernel_rfl) (by kernel_rfl) (fun _ _ _ h => h) (Or.inl ⟨by rfl, by rintro w' ⟨⟨s1, s2⟩, s3⟩; go_simp⟩) hS1 ?_
                      refine wpAnyH_all (rs := [2]) (by kernel_rfl) (by simp) ?_
                      intro i hi
                      obtain rfl : i = 2 := by simpa using hi
                      refine wpOp_now rfl (by rfl) ?_
                      go_simp
                      have hS2 : (fun w' : World => (((w'.cell? ⟨w3.heap.size + 1, 0, none⟩ = some (.int .i64 x3) ∧ w'.cell? ⟨w3.heap.size + 1, 1, none⟩ = some (.int .i64 y3)) ∧ w'.cell? ⟨Y.heap.size, 1, none⟩ = some (.int .i64 (1))) ∧ w'.cell? ⟨Y.heap.size + 1, 1, none⟩ = some (.int .i64 (0)))) ((Y.alloc (.cells #[.int .i64 0, .int .i64 1, .int .i64 0, .int .i64 (-1)] 3)).alloc (.cells #[.int .i64 1, .int .i64 0, .int .i64 (-1), .int .i64 0] 3)).drew := ⟨⟨⟨cellDr (cellAl (cellAl c0)), cellDr (cellAl (cellAl c1))⟩, by go_simp⟩, by go_simp⟩
                      first | refine ⟨⟨cellAl (cellAl c0), cellAl (cellAl c1)⟩, ?_⟩ | refine ⟨cellAl (cellAl c0), cellAl (cellAl c1), ?_⟩ | skip
                      refine anyH_mono (S' := fun w' : World => (((w'.cell? ⟨w3.heap.size + 1, 0, none⟩ = some (.int .i64 x3) ∧ w'.cell? ⟨w3.heap.size + 1, 1, none⟩ = some (.int .i64 y3)) ∧ w'.cell? ⟨Y.heap.size, 1, none⟩ = some (.int .i64 (1))) ∧ w'.cell? ⟨Y.heap.size + 1, 1, none⟩ = some (.int .i64 (0)))) (fun _ h => h.1) _ _ _ _ ?_
                      refine wpAnyH_take (i := 4) (v := .pointer (some ⟨Y.heap.size + 1, 1, none⟩)) rfl (by kernel_rfl) (by kernel_rfl) (by kernel_rfl) (fun _ _ _ h => h) (Or.inl ⟨by rfl, by rintro w' ⟨⟨⟨s1, s2⟩, s3⟩, s4⟩; go_simp⟩) hS2 ?_
                      refine wpAnyH_take (i := 5) (v := .int .i64 (0)) rfl (by kernel_rfl) (by kernel_rfl) (by kernel_rfl) (fun _ _ _ h => h) (Or.inl ⟨by rfl, by rintro w' ⟨⟨⟨s1, s2⟩, s3⟩, s4⟩; go_simp⟩) hS2 ?_
                      refine wpAnyH_take (i := 6) (v := .int .i64 (IntKind.i64.wrap x3)) rfl (by kernel_rfl) (by kernel_rfl) (by kernel_rfl) (fun _ _ _ h => h) (Or.inl ⟨by rfl, by rintro w' ⟨⟨⟨s1, s2⟩, s3⟩, s4⟩; go_simp⟩) hS2 ?_
                      refine wpAnyH_take (i := 14) (v := .agg #[.int .i64 (IntKind.i64.wrap x3), .int .i64 (IntKind.i64.wrap (y3 + 1))]) rfl (by kernel_rfl) (by kernel_rfl) (by kernel_rfl) (fun _ _ _ h => h) (Or.inl ⟨by rfl, by rintro w' ⟨⟨⟨s1, s2⟩, s3⟩, s4⟩; go_simp⟩) hS2 ?_
                      refine wpAnyH_all (rs := [15]) (by kernel_rfl) (by simp) ?_
                      intro i hi
                      obtain rfl : i = 15 := by simpa using hi
                      refine wpOp_now rfl (by rfl) ?_
                      go_simp
                      clear hS0 hS1 hS2
                      first | refine ⟨⟨cellAl (cellAl (cellS2 c0 hne9)), cellAl (cellAl (cellS2 c1 hne9))⟩, ?_⟩ | refine ⟨cellAl (cellAl (cellS2 c0 hne9)), cellAl (cellAl (cellS2 c1 hne9)), ?_⟩ | skip
                      refine wpAnyH_done (by kernel_rfl) (NoPanic.normal ?_) _
                      try simp only [Exit.inBlock, Exit.then]
                      go_wp2_with fail
                      go_roundw
                      case rel => exact ⟨m + 1, k6, _, x3, y3, _, _, by omega, by simp, rfl, by omega, by omega, hPB3, ((((R.set (by show W.heap.size < w5.heap.size; omega) _).set (by show W.heap.size < w5.heap.size; omega) _).alloc _).alloc _).drew, ((((O.set (.inr (by show w3.heap.size ≤ w5.heap.size; omega)) _).set (.inr (by show w3.heap.size ≤ w5.heap.size; omega)) _).alloc _).alloc _).drew, (heap_old _ _ (by simp; omega)).trans ((heap_old _ _ (by simp; omega)).trans (set_oth (set_oth TPz (by omega)) (by omega))), (heap_old _ _ (by simp; omega)).trans ((heap_old _ _ (by simp; omega)).trans (set_oth (set_oth TAz (by omega)) (by omega))), (heap_old _ _ (by simp; omega)).trans ((heap_old _ _ (by simp; omega)).trans (setB2 Az))⟩
                      case measure => simp [intOf]; omega
                  · skip
                    go_wp2_with fail
                    have hS0 : (fun w' : World => (w'.cell? ⟨w3.heap.size + 1, 0, none⟩ = some (.int .i64 x3) ∧ w'.cell? ⟨w3.heap.size + 1, 1, none⟩ = some (.int .i64 y3))) Y.drew := ⟨cellDr c0, cellDr c1⟩
                    refine wp_region_noPanic ?_
                    refine wp_region_held (S := fun w' : World => (w'.cell? ⟨w3.heap.size + 1, 0, none⟩ = some (.int .i64 x3) ∧ w'.cell? ⟨w3.heap.size + 1, 1, none⟩ = some (.int .i64 y3))) hmx ?_
                    refine wpAnyH_take (i := 0) (v := .pointer (some ⟨w3.heap.size + 1, 0, none⟩)) rfl (by kernel_rfl) (by kernel_rfl) (by kernel_rfl) (fun _ _ _ h => h) (Or.inl ⟨by rfl, by rintro w' ⟨s1, s2⟩; go_simp⟩) hS0 ?_
                    refine wpAnyH_take (i := 1) (v := .int .i64 x3) rfl (by kernel_rfl) (by kernel_rfl) (by kernel_rfl) (fun _ _ _ h => h) (Or.inl ⟨by rfl, by rintro w' ⟨s1, s2⟩; go_simp⟩) hS0 ?_
                    refine wpAnyH_take (i := 3) (v := .int .i64 2) rfl (by kernel_rfl) (by kernel_rfl) (by kernel_rfl) (fun _ _ _ h => h) (Or.inl ⟨by rfl, by rintro w' ⟨s1, s2⟩; go_simp⟩) hS0 ?_
                    refine wpAnyH_take (i := 7) (v := .pointer (some ⟨w3.heap.size + 1, 1, none⟩)) rfl (by kernel_rfl) (by kernel_rfl) (by kernel_rfl) (fun _ _ _ h => h) (Or.inl ⟨by rfl, by rintro w' ⟨s1, s2⟩; go_simp⟩) hS0 ?_
                    refine wpAnyH_take (i := 8) (v := .int .i64 y3) rfl (by kernel_rfl) (by kernel_rfl) (by kernel_rfl) (fun _ _ _ h => h) (Or.inl ⟨by rfl, by rintro w' ⟨s1, s2⟩; go_simp⟩) hS0 ?_
                    refine wpAnyH_take (i := 10) (v := .int .i64 2) rfl (by kernel_rfl) (by kernel_rfl) (by kernel_rfl) (fun _ _ _ h => h) (Or.inl ⟨by rfl, by rintro w' ⟨s1, s2⟩; go_simp⟩) hS0 ?_
                    refine wpAnyH_all (rs := [2, 9]) (by kernel_rfl) (by simp) ?_
                    intro i hi
                    have hi' : i = 2 ∨ i = 9 := by simpa using hi
                    rcases hi' with rfl | rfl
                    · skip
                      refine wpOp_now rfl (by rfl) ?_
                      go_simp
                      have hS1 : (fun w' : World => ((w'.cell? ⟨w3.heap.size + 1, 0, none⟩ = some (.int .i64 x3) ∧ w'.cell? ⟨w3.heap.size + 1, 1, none⟩ = some (.int .i64 y3)) ∧ w'.cell? ⟨Y.heap.size, 2, none⟩ = some (.int .i64 (-1)))) (Y.alloc (.cells #[.int .i64 1, .int .i64 0, .int .i64 (-1), .int .i64 0] 3)).drew := ⟨⟨cellDr (cellAl c0), cellDr (cellAl c1)⟩, by go_simp⟩
                      refine anyH_mono (S' := fun w' : World => ((w'.cell? ⟨w3.heap.size + 1, 0, none⟩ = some (.int .i64 x3) ∧ w'.cell? ⟨w3.heap.size + 1, 1, none⟩ = some (.int .i64 y3)) ∧ w'.cell? ⟨Y.heap.size, 2, none⟩ = some (.int .i64 (-1)))) (fun _ h => h.1) _ _ _ _ ?_
                      refine wpAnyH_take (i := 4) (v := .pointer (some ⟨Y.heap.size, 2, none⟩)) rfl (by kernel_rfl) (by kernel_rfl) (by kernel_rfl) (fun _ _ _ h => h) (Or.inl ⟨by rfl, by rintro w' ⟨⟨s1, s2⟩, s3⟩; go_simp⟩) hS1 ?_
                      refine wpAnyH_take (i := 5) (v := .int .i64 (-1)) rfl (by kernel_rfl) (by kernel_rfl) (by kernel_rfl) (fun _ _ _ h => h) (Or.inl ⟨by rfl, by rintro w' ⟨⟨s1, s2⟩, s3⟩; go_simp⟩) hS1 ?_
                      refine wpAnyH_take (i := 6) (v := .int .i64 (IntKind.i64.wrap (x3 + -1))) rfl (by kernel_rfl) (by kernel_rfl) (by kernel_rfl) (fun _ _ _ h => h) (Or.inl ⟨by rfl, by rintro w' ⟨⟨s1, s2⟩, s3⟩; go_simp⟩) hS1 ?_
                      refine wpAnyH_all (rs := [9]) (by kernel_rfl) (by simp) ?_
                      intro i hi
                      obtain rfl : i = 9 := by simpa using hi
                      refine wpOp_now rfl (by rfl) ?_
                      go_simp
                      have hS2 : (fun w' : World => (((w'.cell? ⟨w3.heap.size + 1, 0, none⟩ = some (.int .i64 x3) ∧ w'.cell? ⟨w3.heap.size + 1, 1, none⟩ = some (.int .i64 y3)) ∧ w'.cell? ⟨Y.heap.size, 2, none⟩ = some (.int .i64 (-1))) ∧ w'.cell? ⟨Y.heap.size + 1, 2, none⟩ = some (.int .i64 (0)))) ((Y.alloc (.cells #[.int .i64 1, .int .i64 0, .int .i64 (-1), .int .i64 0] 3)).alloc (.cells #[.int .i64 0, .int .i64 1, .int .i64 0, .int .i64 (-1)] 3)).drew := ⟨⟨⟨cellDr (cellAl (cellAl c0)), cellDr (cellAl (cellAl c1))⟩, by go_simp⟩, by go_simp⟩
                      first | refine ⟨⟨cellAl (cellAl c0), cellAl (cellAl c1)⟩, ?_⟩ | refine ⟨cellAl (cellAl c0), cellAl (cellAl c1), ?_⟩ | skip
                      refine anyH_mono (S' := fun w' : World => (((w'.cell? ⟨w3.heap.size + 1, 0, none⟩ = some (.int .i64 x3) ∧ w'.cell? ⟨w3.heap.size + 1, 1, none⟩ = some (.int .i64 y3)) ∧ w'.cell? ⟨Y.heap.size, 2, none⟩ = some (.int .i64 (-1))) ∧ w'.cell? ⟨Y.heap.size + 1, 2, none⟩ = some (.int .i64 (0)))) (fun _ h => h.1) _ _ _ _ ?_
                      refine wpAnyH_take (i := 11) (v := .pointer (some ⟨Y.heap.size + 1, 2, none⟩)) rfl (by kernel_rfl) (by kernel_rfl) (by kernel_rfl) (fun _ _ _ h => h) (Or.inl ⟨by rfl, by rintro w' ⟨⟨⟨s1, s2⟩, s3⟩, s4⟩; go_simp⟩) hS2 ?_
                      refine wpAnyH_take (i := 12) (v := .int .i64 (0)) rfl (by kernel_rfl) (by kernel_rfl) (by kernel_rfl) (fun _ _ _ h => h) (Or.inl ⟨by rfl, by rintro w' ⟨⟨⟨s1, s2⟩, s3⟩, s4⟩; go_simp⟩) hS2 ?_
                      refine wpAnyH_take (i := 13) (v := .int .i64 (IntKind.i64.wrap y3)) rfl (by kernel_rfl) (by kernel_rfl) (by kernel_rfl) (fun _ _ _ h => h) (Or.inl ⟨by rfl, by rintro w' ⟨⟨⟨s1, s2⟩, s3⟩, s4⟩; go_simp⟩) hS2 ?_
                      refine wpAnyH_take (i := 14) (v := .agg #[.int .i64 (IntKind.i64.wrap (x3 + -1)), .int .i64 (IntKind.i64.wrap y3)]) rfl (by kernel_rfl) (by kernel_rfl) (by kernel_rfl) (fun _ _ _ h => h) (Or.inl ⟨by rfl, by rintro w' ⟨⟨⟨s1, s2⟩, s3⟩, s4⟩; go_simp⟩) hS2 ?_
                      refine wpAnyH_all (rs := [15]) (by kernel_rfl) (by simp) ?_
                      intro i hi
                      obtain rfl : i = 15 := by simpa using hi
                      refine wpOp_now rfl (by rfl) ?_
                      go_simp
                      clear hS0 hS1 hS2
                      first | refine ⟨⟨cellAl (cellAl (cellS2 c0 hne9)), cellAl (cellAl (cellS2 c1 hne9))⟩, ?_⟩ | refine ⟨cellAl (cellAl (cellS2 c0 hne9)), cellAl (cellAl (cellS2 c1 hne9)), ?_⟩ | skip
                      refine wpAnyH_done (by kernel_rfl) (NoPanic.normal ?_) _
                      try simp only [Exit.inBlock, Exit.then]
                      go_wp2_with fail
                      go_roundw
                      case rel => exact ⟨m + 1, k6, _, x3, y3, _, _, by omega, by simp, rfl, by omega, by omega, hPB3, ((((R.set (by show W.heap.size < w5.heap.size; omega) _).set (by show W.heap.size < w5.heap.size; omega) _).alloc _).alloc _).drew, ((((O.set (.inr (by show w3.heap.size ≤ w5.heap.size; omega)) _).set (.inr (by show w3.heap.size ≤ w5.heap.size; omega)) _).alloc _).alloc _).drew, (heap_old _ _ (by simp; omega)).trans ((heap_old _ _ (by simp; omega)).trans (set_oth (set_oth TPz (by omega)) (by omega))), (heap_old _ _ (by simp; omega)).trans ((heap_old _ _ (by simp; omega)).trans (set_oth (set_oth TAz (by omega)) (by omega))), (heap_old _ _ (by simp; omega)).trans ((heap_old _ _ (by simp; omega)).trans (setB2 Az))⟩
                      case measure => simp [intOf]; omega
                    · skip
                      refine wpOp_now rfl (by rfl) ?_
                      go_simp
                      have hS1 : (fun w' : World => ((w'.cell? ⟨w3.heap.size + 1, 0, none⟩ = some (.int .i64 x3) ∧ w'.cell? ⟨w3.heap.size + 1, 1, none⟩ = some (.int .i64 y3)) ∧ w'.cell? ⟨Y.heap.size, 2, none⟩ = some (.int .i64 (0)))) (Y.alloc (.cells #[.int .i64 0, .int .i64 1, .int .i64 0, .int .i64 (-1)] 3)).drew := ⟨⟨cellDr (cellAl c0), cellDr (cellAl c1)⟩, by go_simp⟩
                      refine anyH_mono (S' := fun w' : World => ((w'.cell? ⟨w3.heap.size + 1, 0, none⟩ = some (.int .i64 x3) ∧ w'.cell? ⟨w3.heap.size + 1, 1, none⟩ = some (.int .i64 y3)) ∧ w'.cell? ⟨Y.heap.size, 2, none⟩ = some (.int .i64 (0)))) (fun _ h => h.1) _ _ _ _ ?_
                      refine wpAnyH_take (i := 11) (v := .pointer (some ⟨Y.heap.size, 2, none⟩)) rfl (by kernel_rfl) (by kernel_rfl) (by kernel_rfl) (fun _ _ _ h => h) (Or.inl ⟨by rfl, by rintro w' ⟨⟨s1, s2⟩, s3⟩; go_simp⟩) hS1 ?_
                      refine wpAnyH_take (i := 12) (v := .int .i64 (0)) rfl (by kernel_rfl) (by kernel_rfl) (by kernel_rfl) (fun _ _ _ h => h) (Or.inl ⟨by rfl, by rintro w' ⟨⟨s1, s2⟩, s3⟩; go_simp⟩) hS1 ?_
                      refine wpAnyH_take (i := 13) (v := .int .i64 (IntKind.i64.wrap y3)) rfl (by kernel_rfl) (by kernel_rfl) (by kernel_rfl) (fun _ _ _ h => h) (Or.inl ⟨by rfl, by rintro w' ⟨⟨s1, s2⟩, s3⟩; go_simp⟩) hS1 ?_
                      refine wpAnyH_all (rs := [2]) (by kernel_rfl) (by simp) ?_
                      intro i hi
                      obtain rfl : i = 2 := by simpa using hi
                      refine wpOp_now rfl (by rfl) ?_
                      go_simp
                      have hS2 : (fun w' : World => (((w'.cell? ⟨w3.heap.size + 1, 0, none⟩ = some (.int .i64 x3) ∧ w'.cell? ⟨w3.heap.size + 1, 1, none⟩ = some (.int .i64 y3)) ∧ w'.cell? ⟨Y.heap.size, 2, none⟩ = some (.int .i64 (0))) ∧ w'.cell? ⟨Y.heap.size + 1, 2, none⟩ = some (.int .i64 (-1)))) ((Y.alloc (.cells #[.int .i64 0, .int .i64 1, .int .i64 0, .int .i64 (-1)] 3)).alloc (.cells #[.int .i64 1, .int .i64 0, .int .i64 (-1), .int .i64 0] 3)).drew := ⟨⟨⟨cellDr (cellAl (cellAl c0)), cellDr (cellAl (cellAl c1))⟩, by go_simp⟩, by go_simp⟩
                      first | refine ⟨⟨cellAl (cellAl c0), cellAl (cellAl c1)⟩, ?_⟩ | refine ⟨cellAl (cellAl c0), cellAl (cellAl c1), ?_⟩ | skip
                      refine anyH_mono (S' := fun w' : World => (((w'.cell? ⟨w3.heap.size + 1, 0, none⟩ = some (.int .i64 x3) ∧ w'.cell? ⟨w3.heap.size + 1, 1, none⟩ = some (.int .i64 y3)) ∧ w'.cell? ⟨Y.heap.size, 2, none⟩ = some (.int .i64 (0))) ∧ w'.cell? ⟨Y.heap.size + 1, 2, none⟩ = some (.int .i64 (-1)))) (fun _ h => h.1) _ _ _ _ ?_
                      refine wpAnyH_take (i := 4) (v := .pointer (some ⟨Y.heap.size + 1, 2, none⟩)) rfl (by kernel_rfl) (by kernel_rfl) (by kernel_rfl) (fun _ _ _ h => h) (Or.inl ⟨by rfl, by rintro w' ⟨⟨⟨s1, s2⟩, s3⟩, s4⟩; go_simp⟩) hS2 ?_
                      refine wpAnyH_take (i := 5) (v := .int .i64 (-1)) rfl (by kernel_rfl) (by kernel_rfl) (by kernel_rfl) (fun _ _ _ h => h) (Or.inl ⟨by rfl, by rintro w' ⟨⟨⟨s1, s2⟩, s3⟩, s4⟩; go_simp⟩) hS2 ?_
                      refine wpAnyH_take (i := 6) (v := .int .i64 (IntKind.i64.wrap (x3 + -1))) rfl (by kernel_rfl) (by kernel_rfl) (by kernel_rfl) (fun _ _ _ h => h) (Or.inl ⟨by rfl, by rintro w' ⟨⟨⟨s1, s2⟩, s3⟩, s4⟩; go_simp⟩) hS2 ?_
                      refine wpAnyH_take (i := 14) (v := .agg #[.int .i64 (IntKind.i64.wrap (x3 + -1)), .int .i64 (IntKind.i64.wrap y3)]) rfl (by kernel_rfl) (by kernel_rfl) (by kernel_rfl) (fun _ _ _ h => h) (Or.inl ⟨by rfl, by rintro w' ⟨⟨⟨s1, s2⟩, s3⟩, s4⟩; go_simp⟩) hS2 ?_
                      refine wpAnyH_all (rs := [15]) (by kernel_rfl) (by simp) ?_
                      intro i hi
                      obtain rfl : i = 15 := by simpa using hi
                      refine wpOp_now rfl (by rfl) ?_
                      go_simp
                      clear hS0 hS1 hS2
                      first | refine ⟨⟨cellAl (cellAl (cellS2 c0 hne9)), cellAl (cellAl (cellS2 c1 hne9))⟩, ?_⟩ | refine ⟨cellAl (cellAl (cellS2 c0 hne9)), cellAl (cellAl (cellS2 c1 hne9)), ?_⟩ | skip
                      refine wpAnyH_done (by kernel_rfl) (NoPanic.normal ?_) _
                      try simp only [Exit.inBlock, Exit.then]
                      go_wp2_with fail
                      go_roundw
                      case rel => exact ⟨m + 1, k6, _, x3, y3, _, _, by omega, by simp, rfl, by omega, by omega, hPB3, ((((R.set (by show W.heap.size < w5.heap.size; omega) _).set (by show W.heap.size < w5.heap.size; omega) _).alloc _).alloc _).drew, ((((O.set (.inr (by show w3.heap.size ≤ w5.heap.size; omega)) _).set (.inr (by show w3.heap.size ≤ w5.heap.size; omega)) _).alloc _).alloc _).drew, (heap_old _ _ (by simp; omega)).trans ((heap_old _ _ (by simp; omega)).trans (set_oth (set_oth TPz (by omega)) (by omega))), (heap_old _ _ (by simp; omega)).trans ((heap_old _ _ (by simp; omega)).trans (set_oth (set_oth TAz (by omega)) (by omega))), (heap_old _ _ (by simp; omega)).trans ((heap_old _ _ (by simp; omega)).trans (setB2 Az))⟩
                      case measure => simp [intOf]; omega
                  · skip
                    go_wp2_with fail
                    have hS0 : (fun w' : World => (w'.cell? ⟨w3.heap.size + 1, 0, none⟩ = some (.int .i64 x3) ∧ w'.cell? ⟨w3.heap.size + 1, 1, none⟩ = some (.int .i64 y3))) Y.drew := ⟨cellDr c0, cellDr c1⟩
                    refine wp_region_noPanic ?_
                    refine wp_region_held (S := fun w' : World => (w'.cell? ⟨w3.heap.size + 1, 0, none⟩ = some (.int .i64 x3) ∧ w'.cell? ⟨w3.heap.size + 1, 1, none⟩ = some (.int .i64 y3))) hmx ?_
                    refine wpAnyH_take (i := 0) (v := .pointer (some ⟨w3.heap.size + 1, 0, none⟩)) rfl (by kernel_rfl) (by kernel_rfl) (by kernel_rfl) (fun _ _ _ h => h) (Or.inl ⟨by rfl, by rintro w' ⟨s1, s2⟩; go_simp⟩) hS0 ?_
                    refine wpAnyH_take (i := 1) (v := .int .i64 x3) rfl (by kernel_rfl) (by kernel_rfl) (by kernel_rfl) (fun _ _ _ h => h) (Or.inl ⟨by rfl, by rintro w' ⟨s1, s2⟩; go_simp⟩) hS0 ?_
                    refine wpAnyH_take (i := 3) (v := .int .i64 3) rfl (by kernel_rfl) (by kernel_rfl) (by kernel_rfl) (fun _ _ _ h => h) (Or.inl ⟨by rfl, by rintro w' ⟨s1, s2⟩; go_simp⟩) hS0 ?_
                    refine wpAnyH_take (i := 7) (v := .pointer (some ⟨w3.heap.size + 1, 1, none⟩)) rfl (by kernel_rfl) (by kernel_rfl) (by kernel_rfl) (fun _ _ _ h => h) (Or.inl ⟨by rfl, by rintro w' ⟨s1, s2⟩; go_simp⟩) hS0 ?_
                    refine wpAnyH_take (i := 8) (v := .int .i64 y3) rfl (by kernel_rfl) (by kernel_rfl) (by kernel_rfl) (fun _ _ _ h => h) (Or.inl ⟨by rfl, by rintro w' ⟨s1, s2⟩; go_simp⟩) hS0 ?_
                    refine wpAnyH_take (i := 10) (v := .int .i64 3) rfl (by kernel_rfl) (by kernel_rfl) (by kernel_rfl) (fun _ _ _ h => h) (Or.inl ⟨by rfl, by rintro w' ⟨s1, s2⟩; go_simp⟩) hS0 ?_
                    refine wpAnyH_all (rs := [2, 9]) (by kernel_rfl) (by simp) ?_
                    intro i hi
                    have hi' : i = 2 ∨ i = 9 := by simpa using hi
                    rcases hi' with rfl | rfl
                    · skip
                      refine wpOp_now rfl (by rfl) ?_
                      go_simp
                      have hS1 : (fun w' : World => ((w'.cell? ⟨w3.heap.size + 1, 0, none⟩ = some (.int .i64 x3) ∧ w'.cell? ⟨w3.heap.size + 1, 1, none⟩ = some (.int .i64 y3)) ∧ w'.cell? ⟨Y.heap.size, 3, none⟩ = some (.int .i64 (0)))) (Y.alloc (.cells #[.int .i64 1, .int .i64 0, .int .i64 (-1), .int .i64 0] 3)).drew := ⟨⟨cellDr (cellAl c0), cellDr (cellAl c1)⟩, by go_simp⟩
                      refine anyH_mono (S' := fun w' : World => ((w'.cell? ⟨w3.heap.size + 1, 0, none⟩ = some (.int .i64 x3) ∧ w'.cell? ⟨w3.heap.size + 1, 1, none⟩ = some (.int .i64 y3)) ∧ w'.cell? ⟨Y.heap.size, 3, none⟩ = some (.int .i64 (0)))) (fun _ h => h.1) _ _ _ _ ?_
                      refine wpAnyH_take (i := 4) (v := .pointer (some ⟨Y.heap.size, 3, none⟩)) rfl (by kernel_rfl) (by kernel_rfl) (by kernel_rfl) (fun _ _ _ h => h) (Or.inl ⟨by rfl, by rintro w' ⟨⟨s1, s2⟩, s3⟩; go_simp⟩) hS1 ?_
                      refine wpAnyH_take (i := 5) (v := .int .i64 (0)) rfl (by kernel_rfl) (by kernel_rfl) (by kernel_rfl) (fun _ _ _ h => h) (Or.inl ⟨by rfl, by rintro w' ⟨⟨s1, s2⟩, s3⟩; go_simp⟩) hS1 ?_
                      refine wpAnyH_take (i := 6) (v := .int .i64 (IntKind.i64.wrap x3)) rfl (by kernel_rfl) (by kernel_rfl) (by kernel_rfl) (fun _ _ _ h => h) (Or.inl ⟨by rfl, by rintro w' ⟨⟨s1, s2⟩, s3⟩; go_simp⟩) hS1 ?_
                      refine wpAnyH_all (rs := [9]) (by kernel_rfl) (by simp) ?_
                      intro i hi
                      obtain rfl : i = 9 := by simpa using hi
                      refine wpOp_now rfl (by rfl) ?_
                      go_simp
                      have hS2 : (fun w' : World => (((w'.cell? ⟨w3.heap.size + 1, 0, none⟩ = some (.int .i64 x3) ∧ w'.cell? ⟨w3.heap.size + 1, 1, none⟩ = some (.int .i64 y3)) ∧ w'.cell? ⟨Y.heap.size, 3, none⟩ = some (.int .i64 (0))) ∧ w'.cell? ⟨Y.heap.size + 1, 3, none⟩ = some (.int .i64 (-1)))) ((Y.alloc (.cells #[.int .i64 1, .int .i64 0, .int .i64 (-1), .int .i64 0] 3)).alloc (.cells #[.int .i64 0, .int .i64 1, .int .i64 0, .int .i64 (-1)] 3)).drew := ⟨⟨⟨cellDr (cellAl (cellAl c0)), cellDr (cellAl (cellAl c1))⟩, by go_simp⟩, by go_simp⟩
                      first | refine ⟨⟨cellAl (cellAl c0), cellAl (cellAl c1)⟩, ?_⟩ | refine ⟨cellAl (cellAl c0), cellAl (cellAl c1), ?_⟩ | skip
                      refine anyH_mono (S' := fun w' : World => (((w'.cell? ⟨w3.heap.size + 1, 0, none⟩ = some (.int .i64 x3) ∧ w'.cell? ⟨w3.heap.size + 1, 1, none⟩ = some (.int .i64 y3)) ∧ w'.cell? ⟨Y.heap.size, 3, none⟩ = some (.int .i64 (0))) ∧ w'.cell? ⟨Y.heap.size + 1, 3, none⟩ = some (.int .i64 (-1)))) (fun _ h => h.1) _ _ _ _ ?_
                      refine wpAnyH_take (i := 11) (v := .pointer (some ⟨Y.heap.size + 1, 3, none⟩)) rfl (by kernel_rfl) (by kernel_rfl) (by kernel_rfl) (fun _ _ _ h => h) (Or.inl ⟨by rfl, by rintro w' ⟨⟨⟨s1, s2⟩, s3⟩, s4⟩; go_simp⟩) hS2 ?_
                      refine wpAnyH_take (i := 12) (v := .int .i64 (-1)) rfl (by kernel_rfl) (by kernel_rfl) (by kernel_rfl) (fun _ _ _ h => h) (Or.inl ⟨by rfl, by rintro w' ⟨⟨⟨s1, s2⟩, s3⟩, s4⟩; go_simp⟩) hS2 ?_
                      refine wpAnyH_take (i := 13) (v := .int .i64 (IntKind.i64.wrap (y3 + -1))) rfl (by kernel_rfl) (by kernel_rfl) (by kernel_rfl) (fun _ _ _ h => h) (Or.inl ⟨by rfl, by rintro w' ⟨⟨⟨s1, s2⟩, s3⟩, s4⟩; go_simp⟩) hS2 ?_
                      refine wpAnyH_take (i := 14) (v := .agg #[.int .i64 (IntKind.i64.wrap x3), .int .i64 (IntKind.i64.wrap (y3 + -1))]) rfl (by kernel_rfl) (by kernel_rfl) (by kernel_rfl) (fun _ _ _ h => h) (Or.inl ⟨by rfl, by rintro w' ⟨⟨⟨s1, s2⟩, s3⟩, s4⟩; go_simp⟩) hS2 ?_
                      refine wpAnyH_all (rs := [15]) (by kernel_rfl) (by simp) ?_
                      intro i hi
                      obtain rfl : i = 15 := by simpa using hi
                      refine wpOp_now rfl (by rfl) ?_
                      go_simp
                      clear hS0 hS1 hS2
                      first | refine ⟨⟨cellAl (cellAl (cellS2 c0 hne9)), cellAl (cellAl (cellS2 c1 hne9))⟩, ?_⟩ | refine ⟨cellAl (cellAl (cellS2 c0 hne9)), cellAl (cellAl (cellS2 c1 hne9)), ?_⟩ | skip
                      refine wpAnyH_done (by kernel_rfl) (NoPanic.normal ?_) _
                      try simp only [Exit.inBlock, Exit.then]
                      go_wp2_with fail
                      go_roundw
                      case rel => exact ⟨m + 1, k6, _, x3, y3, _, _, by omega, by simp, rfl, by omega, by omega, hPB3, ((((R.set (by show W.heap.size < w5.heap.size; omega) _).set (by show W.heap.size < w5.heap.size; omega) _).alloc _).alloc _).drew, ((((O.set (.inr (by show w3.heap.size ≤ w5.heap.size; omega)) _).set (.inr (by show w3.heap.size ≤ w5.heap.size; omega)) _).alloc _).alloc _).drew, (heap_old _ _ (by simp; omega)).trans ((heap_old _ _ (by simp; omega)).trans (set_oth (set_oth TPz (by omega)) (by omega))), (heap_old _ _ (by simp; omega)).trans ((heap_old _ _ (by simp; omega)).trans (set_oth (set_oth TAz (by omega)) (by omega))), (heap_old _ _ (by simp; omega)).trans ((heap_old _ _ (by simp; omega)).trans (setB2 Az))⟩
                      case measure => simp [intOf]; omega
                    · skip
                      refine wpOp_now rfl (by rfl) ?_
                      go_simp
                      have hS1 : (fun w' : World => ((w'.cell? ⟨w3.heap.size + 1, 0, none⟩ = some (.int .i64 x3) ∧ w'.cell? ⟨w3.heap.size + 1, 1, none⟩ = some (.int .i64 y3)) ∧ w'.cell? ⟨Y.heap.size, 3, none⟩ = some (.int .i64 (-1)))) (Y.alloc (.cells #[.int .i64 0, .int .i64 1, .int .i64 0, .int .i64 (-1)] 3)).drew := ⟨⟨cellDr (cellAl c0), cellDr (cellAl c1)⟩, by go_simp⟩
                      refine anyH_mono (S' := fun w' : World => ((w'.cell? ⟨w3.heap.size + 1, 0, none⟩ = some (.int .i64 x3) ∧ w'.cell? ⟨w3.heap.size + 1, 1, none⟩ = some (.int .i64 y3)) ∧ w'.cell? ⟨Y.heap.size, 3, none⟩ = some (.int .i64 (-1)))) (fun _ h => h.1) _ _ _ _ ?_
                      refine wpAnyH_take (i := 11) (v := .pointer (some ⟨Y.heap.size, 3, none⟩)) rfl (by kernel_rfl) (by kernel_rfl) (by kernel_rfl) (fun _ _ _ h => h) (Or.inl ⟨by rfl, by rintro w' ⟨⟨s1, s2⟩, s3⟩; go_simp⟩) hS1 ?_
                      refine wpAnyH_take (i := 12) (v := .int .i64 (-1)) rfl (by kernel_rfl) (by kernel_rfl) (by kernel_rfl) (fun _ _ _ h => h) (Or.inl ⟨by rfl, by rintro w' ⟨⟨s1, s2⟩, s3⟩; go_simp⟩) hS1 ?_
                      refine wpAnyH_take (i := 13) (v := .int .i64 (IntKind.i64.wrap (y3 + -1))) rfl (by kernel_rfl) (by kernel_rfl) (by kernel_rfl) (fun _ _ _ h => h) (Or.inl ⟨by rfl, by rintro w' ⟨⟨s1, s2⟩, s3⟩; go_simp⟩) hS1 ?_
                      refine wpAnyH_all (rs := [2]) (by kernel_rfl) (by simp) ?_
                      intro i hi
                      obtain rfl : i = 2 := by simpa using hi
                      refine wpOp_now rfl (by rfl) ?_
                      go_simp
                      have hS2 : (fun w' : World => (((w'.cell? ⟨w3.heap.size + 1, 0, none⟩ = some (.int .i64 x3) ∧ w'.cell? ⟨w3.heap.size + 1, 1, none⟩ = some (.int .i64 y3)) ∧ w'.cell? ⟨Y.heap.size, 3, none⟩ = some (.int .i64 (-1))) ∧ w'.cell? ⟨Y.heap.size + 1, 3, none⟩ = some (.int .i64 (0)))) ((Y.alloc (.cells #[.int .i64 0, .int .i64 1, .int .i64 0, .int .i64 (-1)] 3)).alloc (.cells #[.int .i64 1, .int .i64 0, .int .i64 (-1), .int .i64 0] 3)).drew := ⟨⟨⟨cellDr (cellAl (cellAl c0)), cellDr (cellAl (cellAl c1))⟩, by go_simp⟩, by go_simp⟩
                      first | refine ⟨⟨cellAl (cellAl c0), cellAl (cellAl c1)⟩, ?_⟩ | refine ⟨cellAl (cellAl c0), cellAl (cellAl c1), ?_⟩ | skip
                      refine anyH_mono (S' := fun w' : World => (((w'.cell? ⟨w3.heap.size + 1, 0, none⟩ = some (.int .i64 x3) ∧ w'.cell? ⟨w3.heap.size + 1, 1, none⟩ = some (.int .i64 y3)) ∧ w'.cell? ⟨Y.heap.size, 3, none⟩ = some (.int .i64 (-1))) ∧ w'.cell? ⟨Y.heap.size + 1, 3, none⟩ = some (.int .i64 (0)))) (fun _ h => h.1) _ _ _ _ ?_
                      refine wpAnyH_take (i := 4) (v := .pointer (some ⟨Y.heap.size + 1, 3, none⟩)) rfl (by kernel_rfl) (by kernel_rfl) (by kernel_rfl) (fun _ _ _ h => h) (Or.inl ⟨by rfl, by rintro w' ⟨⟨⟨s1, s2⟩, s3⟩, s4⟩; go_simp⟩) hS2 ?_
                      refine wpAnyH_take (i := 5) (v := .int .i64 (0)) rfl (by kernel_rfl) (by kernel_rfl) (by kernel_rfl) (fun _ _ _ h => h) (Or.inl ⟨by rfl, by rintro w' ⟨⟨⟨s1, s2⟩, s3⟩, s4⟩; go_simp⟩) hS2 ?_
                      refine wpAnyH_take (i := 6) (v := .int .i64 (IntKind.i64.wrap x3)) rfl (by kernel_rfl) (by kernel_rfl) (by kernel_rfl) (fun _ _ _ h => h) (Or.inl ⟨by rfl, by rintro w' ⟨⟨⟨s1, s2⟩, s3⟩, s4⟩; go_simp⟩) hS2 ?_
                      refine wpAnyH_take (i := 14) (v := .agg #[.int .i64 (IntKind.i64.wrap x3), .int .i64 (IntKind.i64.wrap (y3 + -1))]) rfl (by kernel_rfl) (by kernel_rfl) (by kernel_rfl) (fun _ _ _ h => h) (Or.inl ⟨by rfl, by rintro w' ⟨⟨⟨s1, s2⟩, s3⟩, s4⟩; go_simp⟩) hS2 ?_
                      refine wpAnyH_all (rs := [15]) (by kernel_rfl) (by simp) ?_
                      intro i hi
                      obtain rfl : i = 15 := by simpa using hi
                      refine wpOp_now rfl (by rfl) ?_
                      go_simp
                      clear hS0 hS1 hS2
                      first | refine ⟨⟨cellAl (cellAl (cellS2 c0 hne9)), cellAl (cellAl (cellS2 c1 hne9))⟩, ?_⟩ | refine ⟨cellAl (cellAl (cellS2 c0 hne9)), cellAl (cellAl (cellS2 c1 hne9)), ?_⟩ | skip
                      refine wpAnyH_done (by kernel_rfl) (NoPanic.normal ?_) _
                      try simp only [Exit.inBlock, Exit.then]
                      go_wp2_with fail
                      go_roundw
                      case rel => exact ⟨m + 1, k6, _, x3, y3, _, _, by omega, by simp, rfl, by omega, by omega, hPB3, ((((R.set (by show W.heap.size < w5.heap.size; omega) _).set (by show W.heap.size < w5.heap.size; omega) _).alloc _).alloc _).drew, ((((O.set (.inr (by show w3.heap.size ≤ w5.heap.size; omega)) _).set (.inr (by show w3.heap.size ≤ w5.heap.size; omega)) _).alloc _).alloc _).drew, (heap_old _ _ (by simp; omega)).trans ((heap_old _ _ (by simp; omega)).trans (set_oth (set_oth TPz (by omega)) (by omega))), (heap_old _ _ (by simp; omega)).trans ((heap_old _ _ (by simp; omega)).trans (set_oth (set_oth TAz (by omega)) (by omega))), (heap_old _ _ (by simp; omega)).trans ((heap_old _ _ (by simp; omega)).trans (setB2 Az))⟩
                      case measure => simp [intOf]; omega
          case neg =>
            obtain rfl : m = 20 := by omega
            go_wp2_with fail
            (rw [HQ2.out]; exact ⟨rfl, ⟨_, ht', actFn (by kernel_rfl)⟩, _, _, _, _, _, R, O, TPz, TAz, Az⟩)
  go_loopw [11] (fun i wr => ∃ (m kk : Nat) (x2 y2 : Int), m ≤ 6 ∧ i = .int .i64 m ∧ kk ≤ k3 + m * 5 ∧ Rd wr W.heap.size kk a len cap ∧ Only W.heap.size w5 wr ∧ wr.heap[w5.heap.size]? = some (.cells #[.int .i64 x2, .int .i64 y2] 35)) (fun i _ => 6 - (intOf i).toNat)
  case atStart => exact ⟨0, k3, x2, y2, by omega, rfl, by omega, R5, Q5, A5⟩
  case round =>
    obtain ⟨m, kk, x2, y2, hm, rfl, hkk, R, O, A⟩ := hrel
    have zO := O.size
    have zA := blk_lt A
    have m0 : (0 : Int) ≤ (m : Int) := Int.natCast_nonneg _
    have m1 : (m : Int) ≤ 6 := by omega
    by_cases hlt : m < 6
    case pos =>
      have m2 : (m : Int) < 6 := by omega
      go_wp2_with fail
      refine (pick_rd 12 kk a len cap _ _ (by omega) (by omega) R).mono ?_
      clear R
      rintro e y1 ⟨q, rfl, qa, qb, R, O1⟩
      have O2 := O.trans O1
      have A2 := keepO O1 A (by omega)
      have z2' := O2.size
      by_cases hq : 0 < q
      case neg =>
        go_wp2_with fail
        (rw [HQ1.out]; exact ⟨rfl, actFn (by kernel_rfl), _, _, _, by omega, R, O2, A2⟩)
      case pos =>
        obtain ⟨p0, p1⟩ := blk_2 (keepO O2 TP (by omega))
        obtain ⟨c0, c1⟩ := blk_2 (keepO O2 TA (by omega))
        obtain ⟨d0, d1⟩ := blk_2 A2
        have hPy : Plt y1 (some ⟨g, 0, none⟩) n (some ⟨gh, 0, none⟩) N l (hs.map LoopT.l) := by have h4 := (hD.only P4 (by omega)).only O2 (by omega); have e := HN.out; subst e; exact h4.plt
        have hF := sToolMay_any (some ⟨g, 0, none⟩) (some ⟨gh, 0, none⟩) n c N ch l (hs.map LoopT.l) t (x, y) (x2, y2) y1 hPy
        obtain ⟨bf, hbf⟩ : ∃ b, mayV l (hs.map LoopT.l) t (x, y) (x2, y2) = b := ⟨_, rfl⟩
        rw [hbf] at hF
        clear hbf hPy
        go_wp2_with fail
        refine hF.mono ?_
        rintro e y2w ⟨rfl, J⟩
        have O3 := O2.trans (Only.of_below J)
        have A3 := keep J A2
        replace R := R.below J
        have z3' := O3.size
        clear p0 p1 c0 c1 d0 d1 hF
        cases bf
        case true =>
          go_wp2_with fail
          (rw [HQ1.out]; exact ⟨rfl, actFn (by kernel_rfl), _, _, _, by omega, R, O3, A3⟩)
        case false =>
          obtain ⟨c0, c1⟩ := blk_2 (keepO O3 TA (by omega))
          go_wp2_with fail
          refine (pick_rd 4 (kk + 1) a len cap _ _ (by omega) (by omega) R).mono ?_
          clear R
          rintro e y3 ⟨d, rfl, da, db, R, O4⟩
          have O5 := O3.trans O4
          have A5' := keepO O4 A3 (by omega)
          clear c0 c1
          obtain ⟨c0, c1⟩ := blk_2 (keepO O5 TA (by omega))
          obtain ⟨d0, d1, df0, df1⟩ := blk2 A5'
          have hd : d = 0 ∨ d = 1 ∨ d = 2 ∨ d = 3 := by omega
          have hS0 : (fun w' : World => w'.cell? ⟨w3.heap.size + 1, 0, none⟩ = some (.int .i64 x) ∧ w'.cell? ⟨w3.heap.size + 1, 1, none⟩ = some (.int .i64 y)) y3.drew := ⟨c0, c1⟩
          clear hS0
          have zd := blk_lt A5'
          have zd1 : (w5.heap.size = y3.heap.size) = False := by simp; omega
          have zd2 : (w5.heap.size = y3.heap.size + 1) = False := by simp; omega
          have zc0 : w3.heap.size + 1 < y3.heap.size := by omega
          have hne9 : w3.heap.size + 1 ≠ w5.heap.size := by omega
          rcases hd with rfl | rfl | rfl | rfl
          · skip
            go_wp2_with fail
            have hS0 : (fun w' : World => (w'.cell? ⟨w3.heap.size + 1, 0, none⟩ = some (.int .i64 x) ∧ w'.cell? ⟨w3.heap.size + 1, 1, none⟩ = some (.int .i64 y))) y3.drew := ⟨cellDr c0, cellDr c1⟩
            refine wp_region_noPanic ?_
            refine wp_region_held (S := fun w' : World => (w'.cell? ⟨w3.heap.size + 1, 0, none⟩ = some (.int .i64 x) ∧ w'.cell? ⟨w3.heap.size + 1, 1, none⟩ = some (.int .i64 y))) hmx ?_
            refine wpAnyH_take (i := 0) (v := .pointer (some ⟨w3.heap.size + 1, 0, none⟩)) rfl (by kernel_rfl) (by kernel_rfl) (by kernel_rfl) (fun _ _ _ h => h) (Or.inl ⟨by rfl, by rintro w' ⟨s1, s2⟩; go_simp⟩) hS0 ?_
            refine wpAnyH_take (i := 1) (v := .int .i64 x) rfl (by kernel_rfl) (by kernel_rfl) (by kernel_rfl) (fun _ _ _ h => h) (Or.inl ⟨by rfl, by rintro w' ⟨s1, s2⟩; go_simp⟩) hS0 ?_
            refine wpAnyH_take (i := 3) (v := .int .i64 0) rfl (by kernel_rfl) (by kernel_rfl) (by kernel_rfl) (fun _ _ _ h => h) (Or.inl ⟨by rfl, by rintro w' ⟨s1, s2⟩; go_simp⟩) hS0 ?_
            refine wpAnyH_take (i := 7) (v := .pointer (some ⟨w3.heap.size + 1, 1, none⟩)) rfl (by kernel_rfl) (by kernel_rfl) (by kernel_rfl) (fun _ _ _ h => h) (Or.inl ⟨by rfl, by rintro w' ⟨s1, s2⟩; go_simp⟩) hS0 ?_
            refine wpAnyH_take (i := 8) (v := .int .i64 y) rfl (by kernel_rfl) (by kernel_rfl) (by kernel_rfl) (fun _ _ _ h => h) (Or.inl ⟨by rfl, by rintro w' ⟨s1, s2⟩; go_simp⟩) hS0 ?_
            refine wpAnyH_take (i := 10) (v := .int .i64 0) rfl (by kernel_rfl) (by kernel_rfl) (by kernel_rfl) (fun _ _ _ h => h) (Or.inl ⟨by rfl, by rintro w' ⟨s1, s2⟩; go_simp⟩) hS0 ?_
            refine wpAnyH_all (rs := [2, 9]) (by kernel_rfl) (by simp) ?_
            intro i hi
            have hi' : i = 2 ∨ i = 9 := by simpa using hi
            rcases hi' with rfl | rfl
            · skip
              refine wpOp_now rfl (by rfl) ?_
              go_simp
              have hS1 : (fun w' : World => ((w'.cell? ⟨w3.heap.size + 1, 0, none⟩ = some (.int .i64 x) ∧ w'.cell? ⟨w3.heap.size + 1, 1, none⟩ = some (.int .i64 y)) ∧ w'.cell? ⟨y3.heap.size, 0, none⟩ = some (.int .i64 (1)))) (y3.alloc (.cells #[.int .i64 1, .int .i64 0, .int .i64 (-1), .int .i64 0] 3)).drew := ⟨⟨cellDr (cellAl c0), cellDr (cellAl c1)⟩, by go_simp⟩
              refine anyH_mono (S' := fun w' : World => ((w'.cell? ⟨w3.heap.size + 1, 0, none⟩ = some (.int .i64 x) ∧ w'.cell? ⟨w3.heap.size + 1, 1, none⟩ = some (.int .i64 y)) ∧ w'.cell? ⟨y3.heap.size, 0, none⟩ = some (.int .i64 (1)))) (fun _ h => h.1) _ _ _ _ ?_
              refine wpAnyH_take (i := 4) (v := .pointer (some ⟨y3.heap.size, 0, none⟩)) rfl (by kernel_rfl) (by kernel_rfl) (by kernel_rfl) (fun _ _ _ h => h) (Or.inl ⟨by rfl, by rintro w' ⟨⟨s1, s2⟩, s3⟩; go_simp⟩) hS1 ?_
              refine wpAnyH_take (i := 5) (v := .int .i64 (1)) rfl (by kernel_rfl) (by kernel_rfl) (by kernel_rfl) (fun _ _ _ h => h) (Or.inl ⟨by rfl, by rintro w' ⟨⟨s1, s2⟩, s3⟩; go_simp⟩) hS1 ?_
              refine wpAnyH_take (i := 6) (v := .int .i64 (IntKind.i64.wrap (x + 1))) rfl (by kernel_rfl) (by kernel_rfl) (by kernel_rfl) (fun _ _ _ h => h) (Or.inl ⟨by rfl, by rintro w' ⟨⟨s1, s2⟩, s3⟩; go_simp⟩) hS1 ?_
              refine wpAnyH_all (rs := [9]) (by kernel_rfl) (by simp) ?_
              intro i hi
              obtain rfl : i = 9 := by simpa using hi
              refine wpOp_now rfl (by rfl) ?_
              go_simp
              have hS2 : (fun w' : World => (((w'.cell? ⟨w3.heap.size + 1, 0, none⟩ = some (.int .i64 x) ∧ w'.cell? ⟨w3.heap.size + 1, 1, none⟩ = some (.int .i64 y)) ∧ w'.cell? ⟨y3.heap.size, 0, none⟩ = some (.int .i64 (1))) ∧ w'.cell? ⟨y3.heap.size + 1, 0, none⟩ = some (.int .i64 (0)))) ((y3.alloc (.cells #[.int .i64 1, .int .i64 0, .int .i64 (-1), .int .i64 0] 3)).alloc (.cells #[.int .i64 0, .int .i64 1, .int .i64 0, .int .i64 (-1)] 3)).drew := ⟨⟨⟨cellDr (cellAl (cellAl c0)), cellDr (cellAl (cellAl c1))⟩, by go_simp⟩, by go_simp⟩
              first | refine ⟨⟨cellAl (cellAl c0), cellAl (cellAl c1)⟩, ?_⟩ | refine ⟨cellAl (cellAl c0), cellAl (cellAl c1), ?_⟩ | skip
              refine anyH_mono (S' := fun w' : World => (((w'.cell? ⟨w3.heap.size + 1, 0, none⟩ = some (.int .i64 x) ∧ w'.cell? ⟨w3.heap.size + 1, 1, none⟩ = some (.int .i64 y)) ∧ w'.cell? ⟨y3.heap.size, 0, none⟩ = some (.int .i64 (1))) ∧ w'.cell? ⟨y3.heap.size + 1, 0, none⟩ = some (.int .i64 (0)))) (fun _ h => h.1) _ _ _ _ ?_
              refine wpAnyH_take (i := 11) (v := .pointer (some ⟨y3.heap.size + 1, 0, none⟩)) rfl (by kernel_rfl) (by kernel_rfl) (by kernel_rfl) (fun _ _ _ h => h) (Or.inl ⟨by rfl, by rintro w' ⟨⟨⟨s1, s2⟩, s3⟩, s4⟩; go_simp⟩) hS2 ?_
              refine wpAnyH_take (i := 12) (v := .int .i64 (0)) rfl (by kernel_rfl) (by kernel_rfl) (by kernel_rfl) (fun _ _ _ h => h) (Or.inl ⟨by rfl, by rintro w' ⟨⟨⟨s1, s2⟩, s3⟩, s4⟩; go_simp⟩) hS2 ?_
              refine wpAnyH_take (i := 13) (v := .int .i64 (IntKind.i64.wrap y)) rfl (by kernel_rfl) (by kernel_rfl) (by kernel_rfl) (fun _ _ _ h => h) (Or.inl ⟨by rfl, by rintro w' ⟨⟨⟨s1, s2⟩, s3⟩, s4⟩; go_simp⟩) hS2 ?_
              refine wpAnyH_take (i := 14) (v := .agg #[.int .i64 (IntKind.i64.wrap (x + 1)), .int .i64 (IntKind.i64.wrap y)]) rfl (by kernel_rfl) (by kernel_rfl) (by kernel_rfl) (fun _ _ _ h => h) (Or.inl ⟨by rfl, by rintro w' ⟨⟨⟨s1, s2⟩, s3⟩, s4⟩; go_simp⟩) hS2 ?_
              refine wpAnyH_all (rs := [15]) (by kernel_rfl) (by simp) ?_
              intro i hi
              obtain rfl : i = 15 := by simpa using hi
              refine wpOp_now rfl (by rfl) ?_
              go_simp
              clear hS0 hS1 hS2
              first | refine ⟨⟨cellAl (cellAl (cellS2 c0 hne9)), cellAl (cellAl (cellS2 c1 hne9))⟩, ?_⟩ | refine ⟨cellAl (cellAl (cellS2 c0 hne9)), cellAl (cellAl (cellS2 c1 hne9)), ?_⟩ | skip
              refine wpAnyH_done (by kernel_rfl) (NoPanic.normal ?_) _
              try simp only [Exit.inBlock, Exit.then]
              go_wp2_with fail
              go_roundw
              case rel => exact ⟨m + 1, kk + 1 + 1, _, _, by omega, by simp, by omega, ((((R.set (by show W.heap.size < w5.heap.size; omega) _).set (by show W.heap.size < w5.heap.size; omega) _).alloc _).alloc _).drew, ((((O5.set (.inr (Nat.le_refl _)) _).set (.inr (Nat.le_refl _)) _).alloc _).alloc _).drew, (heap_old _ _ (by simp; omega)).trans ((heap_old _ _ (by simp; omega)).trans (setB2 A5'))⟩
              case measure => simp [intOf]; omega
            · skip
              refine wpOp_now rfl (by rfl) ?_
              go_simp
              have hS1 : (fun w' : World => ((w'.cell? ⟨w3.heap.size + 1, 0, none⟩ = some (.int .i64 x) ∧ w'.cell? ⟨w3.heap.size + 1, 1, none⟩ = some (.int .i64 y)) ∧ w'.cell? ⟨y3.heap.size, 0, none⟩ = some (.int .i64 (0)))) (y3.alloc (.cells #[.int .i64 0, .int .i64 1, .int .i64 0, .int .i64 (-1)] 3)).drew := ⟨⟨cellDr (cellAl c0), cellDr (cellAl c1)⟩, by go_simp⟩
              refine anyH_mono (S' := fun w' : World => ((w'.cell? ⟨w3.heap.size + 1, 0, none⟩ = some (.int .i64 x) ∧ w'.cell? ⟨w3.heap.size + 1, 1, none⟩ = some (.int .i64 y)) ∧ w'.cell? ⟨y3.heap.size, 0, none⟩ = some (.int .i64 (0)))) (fun _ h => h.1) _ _ _ _ ?_
              refine wpAnyH_take (i := 11) (v := .pointer (some ⟨y3.heap.size, 0, none⟩)) rfl (by kernel_rfl) (by kernel_rfl) (by kernel_rfl) (fun _ _ _ h => h) (Or.inl ⟨by rfl, by rintro w' ⟨⟨s1, s2⟩, s3⟩; go_simp⟩) hS1 ?_
              refine wpAnyH_take (i := 12) (v := .int .i64 (0)) rfl (by kernel_rfl) (by kernel_rfl) (by kernel_rfl) (fun _ _ _ h => h) (Or.inl ⟨by rfl, by rintro w' ⟨⟨s1, s2⟩, s3⟩; go_simp⟩) hS1 ?_
              refine wpAnyH_take (i := 13) (v := .int .i64 (IntKind.i64.wrap y)) rfl (by kernel_rfl) (by kernel_rfl) (by kernel_rfl) (fun _ _ _ h => h) (Or.inl ⟨by rfl, by rintro w' ⟨⟨s1, s2⟩, s3⟩; go_simp⟩) hS1 ?_
              refine wpAnyH_all (rs := [2]) (by kernel_rfl) (by simp) ?_
              intro i hi
              obtain rfl : i = 2 := by simpa using hi
              refine wpOp_now rfl (by rfl) ?_
              go_simp
              have hS2 : (fun w' : World => (((w'.cell? ⟨w3.heap.size + 1, 0, none⟩ = some (.int .i64 x) ∧ w'.cell? ⟨w3.heap.size + 1, 1, none⟩ = some (.int .i64 y)) ∧ w'.cell? ⟨y3.heap.size, 0, none⟩ = some (.int .i64 (0))) ∧ w'.cell? ⟨y3.heap.size + 1, 0, none⟩ = some (.int .i64 (1)))) ((y3.alloc (.cells #[.int .i64 0, .int .i64 1, .int .i64 0, .int .i64 (-1)] 3)).alloc (.cells #[.int .i64 1, .int .i64 0, .int .i64 (-1), .int .i64 0] 3)).drew := ⟨⟨⟨cellDr (cellAl (cellAl c0)), cellDr (cellAl (cellAl c1))⟩, by go_simp⟩, by go_simp⟩
              first | refine ⟨⟨cellAl (cellAl c0), cellAl (cellAl c1)⟩, ?_⟩ | refine ⟨cellAl (cellAl c0), cellAl (cellAl c1), ?_⟩ | skip
              refine anyH_mono (S' := fun w' : World => (((w'.cell? ⟨w3.heap.size + 1, 0, none⟩ = some (.int .i64 x) ∧ w'.cell? ⟨w3.heap.size + 1, 1, none⟩ = some (.int .i64 y)) ∧ w'.cell? ⟨y3.heap.size, 0, none⟩ = some (.int .i64 (0))) ∧ w'.cell? ⟨y3.heap.size + 1, 0, none⟩ = some (.int .i64 (1)))) (fun _ h => h.1) _ _ _ _ ?_
              refine wpAnyH_take (i := 4) (v := .pointer (some ⟨y3.heap.size + 1, 0, none⟩)) rfl (by kernel_rfl) (by kernel_rfl) (by kernel_rfl) (fun _ _ _ h => h) (Or.inl ⟨by rfl, by rintro w' ⟨⟨⟨s1, s2⟩, s3⟩, s4⟩; go_simp⟩) hS2 ?_
              refine wpAnyH_take (i := 5) (v := .int .i64 (1)) rfl (by kernel_rfl) (by kernel_rfl) (by kernel_rfl) (fun _ _ _ h => h) (Or.inl ⟨by rfl, by rintro w' ⟨⟨⟨s1, s2⟩, s3⟩, s4⟩; go_simp⟩) hS2 ?_
              refine wpAnyH_take (i := 6) (v := .int .i64 (IntKind.i64.wrap (x + 1))) rfl (by kernel_rfl) (by kernel_rfl) (by kernel_rfl) (fun _ _ _ h => h) (Or.inl ⟨by rfl, by rintro w' ⟨⟨⟨s1, s2⟩, s3⟩, s4⟩; go_simp⟩) hS2 ?_
              refine wpAnyH_take (i := 14) (v := .agg #[.int .i64 (IntKind.i64.wrap (x + 1)), .int .i64 (IntKind.i64.wrap y)]) rfl (by kernel_rfl) (by kernel_rfl) (by kernel_rfl) (fun _ _ _ h => h) (Or.inl ⟨by rfl, by rintro w' ⟨⟨⟨s1, s2⟩, s3⟩, s4⟩; go_simp⟩) hS2 ?_
              refine wpAnyH_all (rs := [15]) (by kernel_rfl) (by simp) ?_
              intro i hi
              obtain rfl : i = 15 := by simpa using hi
              refine wpOp_now rfl (by rfl) ?_
              go_simp
              clear hS0 hS1 hS2
              first | refine ⟨⟨cellAl (cellAl (cellS2 c0 hne9)), cellAl (cellAl (cellS2 c1 hne9))⟩, ?_⟩ | refine ⟨cellAl (cellAl (cellS2 c0 hne9)), cellAl (cellAl (cellS2 c1 hne9)), ?_⟩ | skip
              refine wpAnyH_done (by kernel_rfl) (NoPanic.normal ?_) _
              try simp only [Exit.inBlock, Exit.then]
              go_wp2_with fail
              go_roundw
              case rel => exact ⟨m + 1, kk + 1 + 1, _, _, by omega, by simp, by omega, ((((R.set (by show W.heap.size < w5.heap.size; omega) _).set (by show W.heap.size < w5.heap.size; omega) _).alloc _).alloc _).drew, ((((O5.set (.inr (Nat.le_refl _)) _).set (.inr (Nat.le_refl _)) _).alloc _).alloc _).drew, (heap_old _ _ (by simp; omega)).trans ((heap_old _ _ (by simp; omega)).trans (setB2 A5'))⟩
              case measure => simp [intOf]; omega
          · skip
            go_wp2_with fail
            have hS0 : (fun w' : World => (w'.cell? ⟨w3.heap.size + 1, 0, none⟩ = some (.int .i64 x) ∧ w'.cell? ⟨w3.heap.size + 1, 1, none⟩ = some (.int .i64 y))) y3.drew := ⟨cellDr c0, cellDr c1⟩
            refine wp_region_noPanic ?_
            refine wp_region_held (S := fun w' : World => (w'.cell? ⟨w3.heap.size + 1, 0, none⟩ = some (.int .i64 x) ∧ w'.cell? ⟨w3.heap.size + 1, 1, none⟩ = some (.int .i64 y))) hmx ?_
            refine wpAnyH_take (i := 0) (v := .pointer (some ⟨w3.heap.size + 1, 0, none⟩)) rfl (by kernel_rfl) (by kernel_rfl) (by kernel_rfl) (fun _ _ _ h => h) (Or.inl ⟨by rfl, by rintro w' ⟨s1, s2⟩; go_simp⟩) hS0 ?_
            refine wpAnyH_take (i := 1) (v := .int .i64 x) rfl (by kernel_rfl) (by kernel_rfl) (by kernel_rfl) (fun _ _ _ h => h) (Or.inl ⟨by rfl, by rintro w' ⟨s1, s2⟩; go_simp⟩) hS0 ?_
            refine wpAnyH_take (i := 3) (v := .int .i64 1) rfl (by kernel_rfl) (by kernel_rfl) (by kernel_rfl) (fun _ _ _ h => h) (Or.inl ⟨by rfl, by rintro w' ⟨s1, s2⟩; go_simp⟩) hS0 ?_
            refine wpAnyH_take (i := 7) (v := .pointer (some ⟨w3.heap.size + 1, 1, none⟩)) rfl (by kernel_rfl) (by kernel_rfl) (by kernel_rfl) (fun _ _ _ h => h) (Or.inl ⟨by rfl, by rintro w' ⟨s1, s2⟩; go_simp⟩) hS0 ?_
            refine wpAnyH_take (i := 8) (v := .int .i64 y) rfl (by kernel_rfl) (by kernel_rfl) (by kernel_rfl) (fun _ _ _ h => h) (Or.inl ⟨by rfl, by rintro w' ⟨s1, s2⟩; go_simp⟩) hS0 ?_
            refine wpAnyH_take (i := 10) (v := .int .i64 1) rfl (by kernel_rfl) (by kernel_rfl) (by kernel_rfl) (fun _ _ _ h => h) (Or.inl ⟨by rfl, by rintro w' ⟨s1, s2⟩; go_simp⟩) hS0 ?_
            refine wpAnyH_all (rs := [2, 9]) (by kernel_rfl) (by simp) ?_
            intro i hi
            have hi' : i = 2 ∨ i = 9 := by simpa using hi
            rcases hi' with rfl | rfl
            · skip
              refine wpOp_now rfl (by rfl) ?_
              go_simp
              have hS1 : (fun w' : World => ((w'.cell? ⟨w3.heap.size + 1, 0, none⟩ = some (.int .i64 x) ∧ w'.cell? ⟨w3.heap.size + 1, 1, none⟩ = some (.int .i64 y)) ∧ w'.cell? ⟨y3.heap.size, 1, none⟩ = some (.int .i64 (0)))) (y3.alloc (.cells #[.int .i64 1, .int .i64 0, .int .i64 (-1), .int .i64 0] 3)).drew := ⟨⟨cellDr (cellAl c0), cellDr (cellAl c1)⟩, by go_simp⟩
              refine anyH_mono (S' := fun w' : World => ((w'.cell? ⟨w3.heap.size + 1, 0, none⟩ = some (.int .i64 x) ∧ w'.cell? ⟨w3.heap.size + 1, 1, none⟩ = some (.int .i64 y)) ∧ w'.cell? ⟨y3.heap.size, 1, none⟩ = some (.int .i64 (0)))) (fun _ h => h.1) _ _ _ _ ?_
              refine wpAnyH_take (i := 4) (v := .pointer (some ⟨y3.heap.size, 1, none⟩)) rfl (by kernel_rfl) (by kernel_rfl) (by kernel_rfl) (fun _ _ _ h => h) (Or.inl ⟨by rfl, by rintro w' ⟨⟨s1, s2⟩, s3⟩; go_simp⟩) hS1 ?_
              refine wpAnyH_take (i := 5) (v := .int .i64 (0)) rfl (by kernel_rfl) (by kernel_rfl) (by kernel_rfl) (fun _ _ _ h => h) (Or.inl ⟨by rfl, by rintro w' ⟨⟨s1, s2⟩, s3⟩; go_simp⟩) hS1 ?_
              refine wpAnyH_take (i := 6) (v := .int .i64 (IntKind.i64.wrap x)) rfl (by kernel_rfl) (by kernel_rfl) (by kernel_rfl) (fun _ _ _ h => h) (Or.inl ⟨by rfl, by rintro w' ⟨⟨s1, s2⟩, s3⟩; go_simp⟩) hS1 ?_
              refine wpAnyH_all (rs := [9]) (by kernel_rfl) (by simp) ?_
              intro i hi
              obtain rfl : i = 9 := by simpa using hi
              refine wpOp_now rfl (by rfl) ?_
              go_simp
              have hS2 : (fun w' : World => (((w'.cell? ⟨w3.heap.size + 1, 0, none⟩ = some (.int .i64 x) ∧ w'.cell? ⟨w3.heap.size + 1, 1, none⟩ = some (.int .i64 y)) ∧ w'.cell? ⟨y3.heap.size, 1, none⟩ = some (.int .i64 (0))) ∧ w'.cell? ⟨y3.heap.size + 1, 1, none⟩ = some (.int .i64 (1)))) ((y3.alloc (.cells #[.int .i64 1, .int .i64 0, .int .i64 (-1), .int .i64 0] 3)).alloc (.cells #[.int .i64 0, .int .i64 1, .int .i64 0, .int .i64 (-1)] 3)).drew := ⟨⟨⟨cellDr (cellAl (cellAl c0)), cellDr (cellAl (cellAl c1))⟩, by go_simp⟩, by go_simp⟩
              first | refine ⟨⟨cellAl (cellAl c0), cellAl (cellAl c1)⟩, ?_⟩ | refine ⟨cellAl (cellAl c0), cellAl (cellAl c1), ?_⟩ | skip
              refine anyH_mono (S' := fun w' : World => (((w'.cell? ⟨w3.heap.size + 1, 0, none⟩ = some (.int .i64 x) ∧ w'.cell? ⟨w3.heap.size + 1, 1, none⟩ = some (.int .i64 y)) ∧ w'.cell? ⟨y3.heap.size, 1, none⟩ = some (.int .i64 (0))) ∧ w'.cell? ⟨y3.heap.size + 1, 1, none⟩ = some (.int .i64 (1)))) (fun _ h => h.1) _ _ _ _ ?_
              refine wpAnyH_take (i := 11) (v := .pointer (some ⟨y3.heap.size + 1, 1, none⟩)) rfl (by kernel_rfl) (by kernel_rfl) (by kernel_rfl) (fun _ _ _ h => h) (Or.inl ⟨by rfl, by rintro w' ⟨⟨⟨s1, s2⟩, s3⟩, s4⟩; go_simp⟩) hS2 ?_
              refine wpAnyH_take (i := 12) (v := .int .i64 (1)) rfl (by kernel_rfl) (by kernel_rfl) (by kernel_rfl) (fun _ _ _ h => h) (Or.inl ⟨by rfl, by rintro w' ⟨⟨⟨s1, s2⟩, s3⟩, s4⟩; go_simp⟩) hS2 ?_
              refine wpAnyH_take (i := 13) (v := .int .i64 (IntKind.i64.wrap (y + 1))) rfl (by kernel_rfl) (by kernel_rfl) (by kernel_rfl) (fun _ _ _ h => h) (Or.inl ⟨by rfl, by rintro w' ⟨⟨⟨s1, s2⟩, s3⟩, s4⟩; go_simp⟩) hS2 ?_
              refine wpAnyH_take (i := 14) (v := .agg #[.int .i64 (IntKind.i64.wrap x), .int .i64 (IntKind.i64.wrap (y + 1))]) rfl (by kernel_rfl) (by kernel_rfl) (by kernel_rfl) (fun _ _ _ h => h) (Or.inl ⟨by rfl, by rintro w' ⟨⟨⟨s1, s2⟩, s3⟩, s4⟩; go_simp⟩) hS2 ?_
              refine wpAnyH_all (rs := [15]) (by kernel_rfl) (by simp) ?_
              intro i hi
              obtain rfl : i = 15 := by simpa using hi
              refine wpOp_now rfl (by rfl) ?_
              go_simp
              clear hS0 hS1 hS2
              first | refine ⟨⟨cellAl (cellAl (cellS2 c0 hne9)), cellAl (cellAl (cellS2 c1 hne9))⟩, ?_⟩ | refine ⟨cellAl (cellAl (cellS2 c0 hne9)), cellAl (cellAl (cellS2 c1 hne9)), ?_⟩ | skip
              refine wpAnyH_done (by kernel_rfl) (NoPanic.normal ?_) _
              try simp only [Exit.inBlock, Exit.then]
              go_wp2_with fail
              go_roundw
              case rel => exact ⟨m + 1, kk + 1 + 1, _, _, by omega, by simp, by omega, ((((R.set (by show W.heap.size < w5.heap.size; omega) _).set (by show W.heap.size < w5.heap.size; omega) _).alloc _).alloc _).drew, ((((O5.set (.inr (Nat.le_refl _)) _).set (.inr (Nat.le_refl _)) _).alloc _).alloc _).drew, (heap_old _ _ (by simp; omega)).trans ((heap_old _ _ (by simp; omega)).trans (setB2 A5'))⟩
              case measure => simp [intOf]; omega
            · skip
              refine wpOp_now rfl (by rfl) ?_
              go_simp
              have hS1 : (fun w' : World => ((w'.cell? ⟨w3.heap.size + 1, 0, none⟩ = some (.int .i64 x) ∧ w'.cell? ⟨w3.heap.size + 1, 1, none⟩ = some (.int .i64 y)) ∧ w'.cell? ⟨y3.heap.size, 1, none⟩ = some (.int .i64 (1)))) (y3.alloc (.cells #[.int .i64 0, .int .i64 1, .int .i64 0, .int .i64 (-1)] 3)).drew := ⟨⟨cellDr (cellAl c0), cellDr (cellAl c1)⟩, by go_simp⟩
              refine anyH_mono (S' := fun w' : World => ((w'.cell? ⟨w3.heap.size + 1, 0, none⟩ = some (.int .i64 x) ∧ w'.cell? ⟨w3.heap.size + 1, 1, none⟩ = some (.int .i64 y)) ∧ w'.cell? ⟨y3.heap.size, 1, none⟩ = some (.int .i64 (1)))) (fun _ h => h.1) _ _ _ _ ?_
              refine wpAnyH_take (i := 11) (v := .pointer (some ⟨y3.heap.size, 1, none⟩)) rfl (by kernel_rfl) (by kernel_rfl) (by kernel_rfl) (fun _ _ _ h => h) (Or.inl ⟨by rfl, by rintro w' ⟨⟨s1, s2⟩, s3⟩; go_simp⟩) hS1 ?_
              refine wpAnyH_take (i := 12) (v := .int .i64 (1)) rfl (by kernel_rfl) (by kernel_rfl) (by kernel_rfl) (fun _ _ _ h => h) (Or.inl ⟨by rfl, by rintro w' ⟨⟨s1, s2⟩, s3⟩; go_simp⟩) hS1 ?_
              refine wpAnyH_take (i := 13) (v := .int .i64 (IntKind.i64.wrap (y + 1))) rfl (by kernel_rfl) (by kernel_rfl) (by kernel_rfl) (fun _ _ _ h => h) (Or.inl ⟨by rfl, by rintro w' ⟨⟨s1, s2⟩, s3⟩; go_simp⟩) hS1 ?_
              refine wpAnyH_all (rs := [2]) (by kernel_rfl) (by simp) ?_
              intro i hi
              obtain rfl : i = 2 := by simpa using hi
              refine wpOp_now rfl (by rfl) ?_
              go_simp
              have hS2 : (fun w' : World => (((w'.cell? ⟨w3.heap.size + 1, 0, none⟩ = some (.int .i64 x) ∧ w'.cell? ⟨w3.heap.size + 1, 1, none⟩ = some (.int .i64 y)) ∧ w'.cell? ⟨y3.heap.size, 1, none⟩ = some (.int .i64 (1))) ∧ w'.cell? ⟨y3.heap.size + 1, 1, none⟩ = some (.int .i64 (0)))) ((y3.alloc (.cells #[.int .i64 0, .int .i64 1, .int .i64 0, .int .i64 (-1)] 3)).alloc (.cells #[.int .i64 1, .int .i64 0, .int .i64 (-1), .int .i64 0] 3)).drew := ⟨⟨⟨cellDr (cellAl (cellAl c0)), cellDr (cellAl (cellAl c1))⟩, by go_simp⟩, by go_simp⟩
              first | refine ⟨⟨cellAl (cellAl c0), cellAl (cellAl c1)⟩, ?_⟩ | refine ⟨cellAl (cellAl c0), cellAl (cellAl c1), ?_⟩ | skip
              refine anyH_mono (S' := fun w' : World => (((w'.cell? ⟨w3.heap.size + 1, 0, none⟩ = some (.int .i64 x) ∧ w'.cell? ⟨w3.heap.size + 1, 1, none⟩ = some (.int .i64 y)) ∧ w'.cell? ⟨y3.heap.size, 1, none⟩ = some (.int .i64 (1))) ∧ w'.cell? ⟨y3.heap.size + 1, 1, none⟩ = some (.int .i64 (0)))) (fun _ h => h.1) _ _ _ _ ?_
              refine wpAnyH_take (i := 4) (v := .pointer (some ⟨y3.heap.size + 1, 1, none⟩)) rfl (by kernel_rfl) (by kernel_rfl) (by kernel_rfl) (fun _ _ _ h => h) (Or.inl ⟨by rfl, by rintro w' ⟨⟨⟨s1, s2⟩, s3⟩, s4⟩; go_simp⟩) hS2 ?_
              refine wpAnyH_take (i := 5) (v := .int .i64 (0)) rfl (by kernel_rfl) (by kernel_rfl) (by kernel_rfl) (fun _ _ _ h => h) (Or.inl ⟨by rfl, by rintro w' ⟨⟨⟨s1, s2⟩, s3⟩, s4⟩; go_simp⟩) hS2 ?_
              refine wpAnyH_take (i := 6) (v := .int .i64 (IntKind.i64.wrap x)) rfl (by kernel_rfl) (by kernel_rfl) (by kernel_rfl) (fun _ _ _ h => h) (Or.inl ⟨by rfl, by rintro w' ⟨⟨⟨s1, s2⟩, s3⟩, s4⟩; go_simp⟩) hS2 ?_
              refine wpAnyH_take (i := 14) (v := .agg #[.int .i64 (IntKind.i64.wrap x), .int .i64 (IntKind.i64.wrap (y + 1))]) rfl (by kernel_rfl) (by kernel_rfl) (by kernel_rfl) (fun _ _ _ h => h) (Or.inl ⟨by rfl, by rintro w' ⟨⟨⟨s1, s2⟩, s3⟩, s4⟩; go_simp⟩) hS2 ?_
              refine wpAnyH_all (rs := [15]) (by kernel_rfl) (by simp) ?_
              intro i hi
              obtain rfl : i = 15 := by simpa using hi
              refine wpOp_now rfl (by rfl) ?_
              go_simp
              clear hS0 hS1 hS2
              first | refine ⟨⟨cellAl (cellAl (cellS2 c0 hne9)), cellAl (cellAl (cellS2 c1 hne9))⟩, ?_⟩ | refine ⟨cellAl (cellAl (cellS2 c0 hne9)), cellAl (cellAl (cellS2 c1 hne9)), ?_⟩ | skip
              refine wpAnyH_done (by kernel_rfl) (NoPanic.normal ?_) _
              try simp only [Exit.inBlock, Exit.then]
              go_wp2_with fail
              go_roundw
              case rel => exact ⟨m + 1, kk + 1 + 1, _, _, by omega, by simp, by omega, ((((R.set (by show W.heap.size < w5.heap.size; omega) _).set (by show W.heap.size < w5.heap.size; omega) _).alloc _).alloc _).drew, ((((O5.set (.inr (Nat.le_refl _)) _).set (.inr (Nat.le_refl _)) _).alloc _).alloc _).drew, (heap_old _ _ (by simp; omega)).trans ((heap_old _ _ (by simp; omega)).trans (setB2 A5'))⟩
              case measure => simp [intOf]; omega
          · skip
            go_wp2_with fail
            have hS0 : (fun w' : World => (w'.cell? ⟨w3.heap.size + 1, 0, none⟩ = some (.int .i64 x) ∧ w'.cell? ⟨w3.heap.size + 1, 1, none⟩ = some (.int .i64 y))) y3.drew := ⟨cellDr c0, cellDr c1⟩
            refine wp_region_noPanic ?_
            refine wp_region_held (S := fun w' : World => (w'.cell? ⟨w3.heap.size + 1, 0, none⟩ = some (.int .i64 x) ∧ w'.cell? ⟨w3.heap.size + 1, 1, none⟩ = some (.int .i64 y))) hmx ?_
            refine wpAnyH_take (i := 0) (v := .pointer (some ⟨w3.heap.size + 1, 0, none⟩)) rfl (by kernel_rfl) (by kernel_rfl) (by kernel_rfl) (fun _ _ _ h => h) (Or.inl ⟨by rfl, by rintro w' ⟨s1, s2⟩; go_simp⟩) hS0 ?_
            refine wpAnyH_take (i := 1) (v := .int .i64 x) rfl (by kernel_rfl) (by kernel_rfl) (by kernel_rfl) (fun _ _ _ h => h) (Or.inl ⟨by rfl, by rintro w' ⟨s1, s2⟩; go_simp⟩) hS0 ?_
            refine wpAnyH_take (i := 3) (v := .int .i64 2) rfl (by kernel_rfl) (by kernel_rfl) (by kernel_rfl) (fun _ _ _ h => h) (Or.inl ⟨by rfl, by rintro w' ⟨s1, s2⟩; go_simp⟩) hS0 ?_
            refine wpAnyH_take (i := 7) (v := .pointer (some ⟨w3.heap.size + 1, 1, none⟩)) rfl (by kernel_rfl) (by kernel_rfl) (by kernel_rfl) (fun _ _ _ h => h) (Or.inl ⟨by rfl, by rintro w' ⟨s1, s2⟩; go_simp⟩) hS0 ?_
            refine wpAnyH_take (i := 8) (v := .int .i64 y) rfl (by kernel_rfl) (by kernel_rfl) (by kernel_rfl) (fun _ _ _ h => h) (Or.inl ⟨by rfl, by rintro w' ⟨s1, s2⟩; go_simp⟩) hS0 ?_
            refine wpAnyH_take (i := 10) (v := .int .i64 2) rfl (by kernel_rfl) (by kernel_rfl) (by kernel_rfl) (fun _ _ _ h => h) (Or.inl ⟨by rfl, by rintro w' ⟨s1, s2⟩; go_simp⟩) hS0 ?_
            refine wpAnyH_all (rs := [2, 9]) (by kernel_rfl) (by simp) ?_
            intro i hi
            have hi' : i = 2 ∨ i = 9 := by simpa using hi
            rcases hi' with rfl | rfl
            · skip
              refine wpOp_now rfl (by rfl) ?_
              go_simp
              have hS1 : (fun w' : World => ((w'.cell? ⟨w3.heap.size + 1, 0, none⟩ = some (.int .i64 x) ∧ w'.cell? ⟨w3.heap.size + 1, 1, none⟩ = some (.int .i64 y)) ∧ w'.cell? ⟨y3.heap.size, 2, none⟩ = some (.int .i64 (-1)))) (y3.alloc (.cells #[.int .i64 1, .int .i64 0, .int .i64 (-1), .int .i64 0] 3)).drew := ⟨⟨cellDr (cellAl c0), cellDr (cellAl c1)⟩, by go_simp⟩
              refine anyH_mono (S' := fun w' : World => ((w'.cell? ⟨w3.heap.size + 1, 0, none⟩ = some (.int .i64 x) ∧ w'.cell? ⟨w3.heap.size + 1, 1, none⟩ = some (.int .i64 y)) ∧ w'.cell? ⟨y3.heap.size, 2, none⟩ = some (.int .i64 (-1)))) (fun _ h => h.1) _ _ _ _ ?_
              refine wpAnyH_take (i := 4) (v := .pointer (some ⟨y3.heap.size, 2, none⟩)) rfl (by kernel_rfl) (by kernel_rfl) (by kernel_rfl) (fun _ _ _ h => h) (Or.inl ⟨by rfl, by rintro w' ⟨⟨s1, s2⟩, s3⟩; go_simp⟩) hS1 ?_
              refine wpAnyH_take (i := 5) (v := .int .i64 (-1)) rfl (by kernel_rfl) (by kernel_rfl) (by kernel_rfl) (fun _ _ _ h => h) (Or.inl ⟨by rfl, by rintro w' ⟨⟨s1, s2⟩, s3⟩; go_simp⟩) hS1 ?_
              refine wpAnyH_take (i := 6) (v := .int .i64 (IntKind.i64.wrap (x + -1))) rfl (by kernel_rfl) (by kernel_rfl) (by kernel_rfl) (fun _ _ _ h => h) (Or.inl ⟨by rfl, by rintro w' ⟨⟨s1, s2⟩, s3⟩; go_simp⟩) hS1 ?_
              refine wpAnyH_all (rs := [9]) (by kernel_rfl) (by simp) ?_
              intro i hi
              obtain rfl : i = 9 := by simpa using hi
              refine wpOp_now rfl (by rfl) ?_
              go_simp
              have hS2 : (fun w' : World => (((w'.cell? ⟨w3.heap.size + 1, 0, none⟩ = some (.int .i64 x) ∧ w'.cell? ⟨w3.heap.size + 1, 1, none⟩ = some (.int .i64 y)) ∧ w'.cell? ⟨y3.heap.size, 2, none⟩ = some (.int .i64 (-1))) ∧ w'.cell? ⟨y3.heap.size + 1, 2, none⟩ = some (.int .i64 (0)))) ((y3.alloc (.cells #[.int .i64 1, .int .i64 0, .int .i64 (-1), .int .i64 0] 3)).alloc (.cells #[.int .i64 0, .int .i64 1, .int .i64 0, .int .i64 (-1)] 3)).drew := ⟨⟨⟨cellDr (cellAl (cellAl c0)), cellDr (cellAl (cellAl c1))⟩, by go_simp⟩, by go_simp⟩
              first | refine ⟨⟨cellAl (cellAl c0), cellAl (cellAl c1)⟩, ?_⟩ | refine ⟨cellAl (cellAl c0), cellAl (cellAl c1), ?_⟩ | skip
              refine anyH_mono (S' := fun w' : World => (((w'.cell? ⟨w3.heap.size + 1, 0, none⟩ = some (.int .i64 x) ∧ w'.cell? ⟨w3.heap.size + 1, 1, none⟩ = some (.int .i64 y)) ∧ w'.cell? ⟨y3.heap.size, 2, none⟩ = some (.int .i64 (-1))) ∧ w'.cell? ⟨y3.heap.size + 1, 2, none⟩ = some (.int .i64 (0)))) (fun _ h => h.1) _ _ _ _ ?_
              refine wpAnyH_take (i := 11) (v := .pointer (some ⟨y3.heap.size + 1, 2, none⟩)) rfl (by kernel_rfl) (by kernel_rfl) (by kernel_rfl) (fun _ _ _ h => h) (Or.inl ⟨by rfl, by rintro w' ⟨⟨⟨s1, s2⟩, s3⟩, s4⟩; go_simp⟩) hS2 ?_
              refine wpAnyH_take (i := 12) (v := .int .i64 (0)) rfl (by kernel_rfl) (by kernel_rfl) (by kernel_rfl) (fun _ _ _ h => h) (Or.inl ⟨by rfl, by rintro w' ⟨⟨⟨s1, s2⟩, s3⟩, s4⟩; go_simp⟩) hS2 ?_
              refine wpAnyH_take (i := 13) (v := .int .i64 (IntKind.i64.wrap y)) rfl (by kernel_rfl) (by kernel_rfl) (by kernel_rfl) (fun _ _ _ h => h) (Or.inl ⟨by rfl, by rintro w' ⟨⟨⟨s1, s2⟩, s3⟩, s4⟩; go_simp⟩) hS2 ?_
              refine wpAnyH_take (i := 14) (v := .agg #[.int .i64 (IntKind.i64.wrap (x + -1)), .int .i64 (IntKind.i64.wrap y)]) rfl (by kernel_rfl) (by kernel_rfl) (by kernel_rfl) (fun _ _ _ h => h) (Or.inl ⟨by rfl, by rintro w' ⟨⟨⟨s1, s2⟩, s3⟩, s4⟩; go_simp⟩) hS2 ?_
              refine wpAnyH_all (rs := [15]) (by kernel_rfl) (by simp) ?_
              intro i hi
              obtain rfl : i = 15 := by simpa using hi
              refine wpOp_now rfl (by rfl) ?_
              go_simp
              clear hS0 hS1 hS2
              first | refine ⟨⟨cellAl (cellAl (cellS2 c0 hne9)), cellAl (cellAl (cellS2 c1 hne9))⟩, ?_⟩ | refine ⟨cellAl (cellAl (cellS2 c0 hne9)), cellAl (cellAl (cellS2 c1 hne9)), ?_⟩ | skip
              refine wpAnyH_done (by kernel_rfl) (NoPanic.normal ?_) _
              try simp only [Exit.inBlock, Exit.then]
              go_wp2_with fail
              go_roundw
              case rel => exact ⟨m + 1, kk + 1 + 1, _, _, by omega, by simp, by omega, ((((R.set (by show W.heap.size < w5.heap.size; omega) _).set (by show W.heap.size < w5.heap.size; omega) _).alloc _).alloc _).drew, ((((O5.set (.inr (Nat.le_refl _)) _).set (.inr (Nat.le_refl _)) _).alloc _).alloc _).drew, (heap_old _ _ (by simp; omega)).trans ((heap_old _ _ (by simp; omega)).trans (setB2 A5'))⟩
              case measure => simp [intOf]; omega
            · skip
              refine wpOp_now rfl (by rfl) ?_
              go_simp
              have hS1 : (fun w' : World => ((w'.cell? ⟨w3.heap.size + 1, 0, none⟩ = some (.int .i64 x) ∧ w'.cell? ⟨w3.heap.size + 1, 1, none⟩ = some (.int .i64 y)) ∧ w'.cell? ⟨y3.heap.size, 2, none⟩ = some (.int .i64 (0)))) (y3.alloc (.cells #[.int .i64 0, .int .i64 1, .int .i64 0, .int .i64 (-1)] 3)).drew := ⟨⟨cellDr (cellAl c0), cellDr (cellAl c1)⟩, by go_simp⟩
              refine anyH_mono (S' := fun w' : World => ((w'.cell? ⟨w3.heap.size + 1, 0, none⟩ = some (.int .i64 x) ∧ w'.cell? ⟨w3.heap.size + 1, 1, none⟩ = some (.int .i64 y)) ∧ w'.cell? ⟨y3.heap.size, 2, none⟩ = some (.int .i64 (0)))) (fun _ h => h.1) _ _ _ _ ?_
              refine wpAnyH_take (i := 11) (v := .pointer (some ⟨y3.heap.size, 2, none⟩)) rfl (by kernel_rfl) (by kernel_rfl) (by kernel_rfl) (fun _ _ _ h => h) (Or.inl ⟨by rfl, by rintro w' ⟨⟨s1, s2⟩, s3⟩; go_simp⟩) hS1 ?_
              refine wpAnyH_take (i := 12) (v := .int .i64 (0)) rfl (by kernel_rfl) (by kernel_rfl) (by kernel_rfl) (fun _ _ _ h => h) (Or.inl ⟨by rfl, by rintro w' ⟨⟨s1, s2⟩, s3⟩; go_simp⟩) hS1 ?_
              refine wpAnyH_take (i := 13) (v := .int .i64 (IntKind.i64.wrap y)) rfl (by kernel_rfl) (by kernel_rfl) (by kernel_rfl) (fun _ _ _ h => h) (Or.inl ⟨by rfl, by rintro w' ⟨⟨s1, s2⟩, s3⟩; go_simp⟩) hS1 ?_
              refine wpAnyH_all (rs := [2]) (by kernel_rfl) (by simp) ?_
              intro i hi
              obtain rfl : i = 2 := by simpa using hi
              refine wpOp_now rfl (by rfl) ?_
              go_simp
              have hS2 : (fun w' : World => (((w'.cell? ⟨w3.heap.size + 1, 0, none⟩ = some (.int .i64 x) ∧ w'.cell? ⟨w3.heap.size + 1, 1, none⟩ = some (.int .i64 y)) ∧ w'.cell? ⟨y3.heap.size, 2, none⟩ = some (.int .i64 (0))) ∧ w'.cell? ⟨y3.heap.size + 1, 2, none⟩ = some (.int .i64 (-1)))) ((y3.alloc (.cells #[.int .i64 0, .int .i64 1, .int .i64 0, .int .i64 (-1)] 3)).alloc (.cells #[.int .i64 1, .int .i64 0, .int .i64 (-1), .int .i64 0] 3)).drew := ⟨⟨⟨cellDr (cellAl (cellAl c0)), cellDr (cellAl (cellAl c1))⟩, by go_simp⟩, by go_simp⟩
              first | refine ⟨⟨cellAl (cellAl c0), cellAl (cellAl c1)⟩, ?_⟩ | refine ⟨cellAl (cellAl c0), cellAl (cellAl c1), ?_⟩ | skip
              refine anyH_mono (S' := fun w' : World => (((w'.cell? ⟨w3.heap.size + 1, 0, none⟩ = some (.int .i64 x) ∧ w'.cell? ⟨w3.heap.size + 1, 1, none⟩ = some (.int .i64 y)) ∧ w'.cell? ⟨y3.heap.size, 2, none⟩ = some (.int .i64 (0))) ∧ w'.cell? ⟨y3.heap.size + 1, 2, none⟩ = some (.int .i64 (-1)))) (fun _ h => h.1) _ _ _ _ ?_
              refine wpAnyH_take (i := 4) (v := .pointer (some ⟨y3.heap.size + 1, 2, none⟩)) rfl (by kernel_rfl) (by kernel_rfl) (by kernel_rfl) (fun _ _ _ h => h) (Or.inl ⟨by rfl, by rintro w' ⟨⟨⟨s1, s2⟩, s3⟩, s4⟩; go_simp⟩) hS2 ?_
              refine wpAnyH_take (i := 5) (v := .int .i64 (-1)) rfl (by kernel_rfl) (by kernel_rfl) (by kernel_rfl) (fun _ _ _ h => h) (Or.inl ⟨by rfl, by rintro w' ⟨⟨⟨s1, s2⟩, s3⟩, s4⟩; go_simp⟩) hS2 ?_
              refine wpAnyH_take (i := 6) (v := .int .i64 (IntKind.i64.wrap (x + -1))) rfl (by kernel_rfl) (by kernel_rfl) (by kernel_rfl) (fun _ _ _ h => h) (Or.inl ⟨by rfl, by rintro w' ⟨⟨⟨s1, s2⟩, s3⟩, s4⟩; go_simp⟩) hS2 ?_
              refine wpAnyH_take (i := 14) (v := .agg #[.int .i64 (IntKind.i64.wrap (x + -1)), .int .i64 (IntKind.i64.wrap y)]) rfl (by kernel_rfl) (by kernel_rfl) (by kernel_rfl) (fun _ _ _ h => h) (Or.inl ⟨by rfl, by rintro w' ⟨⟨⟨s1, s2⟩, s3⟩, s4⟩; go_simp⟩) hS2 ?_
              refine wpAnyH_all (rs := [15]) (by kernel_rfl) (by simp) ?_
              intro i hi
              obtain rfl : i = 15 := by simpa using hi
              refine wpOp_now rfl (by rfl) ?_
              go_simp
              clear hS0 hS1 hS2
              first | refine ⟨⟨cellAl (cellAl (cellS2 c0 hne9)), cellAl (cellAl (cellS2 c1 hne9))⟩, ?_⟩ | refine ⟨cellAl (cellAl (cellS2 c0 hne9)), cellAl (cellAl (cellS2 c1 hne9)), ?_⟩ | skip
              refine wpAnyH_done (by kernel_rfl) (NoPanic.normal ?_) _
              try simp only [Exit.inBlock, Exit.then]
              go_wp2_with fail
              go_roundw
              case rel => exact ⟨m + 1, kk + 1 + 1, _, _, by omega, by simp, by omega, ((((R.set (by show W.heap.size < w5.heap.size; omega) _).set (by show W.heap.size < w5.heap.size; omega) _).alloc _).alloc _).drew, ((((O5.set (.inr (Nat.le_refl _)) _).set (.inr (Nat.le_refl _)) _).alloc _).alloc _).drew, (heap_old _ _ (by simp; omega)).trans ((heap_old _ _ (by simp; omega)).trans (setB2 A5'))⟩
              case measure => simp [intOf]; omega
          · skip
            go_wp2_with fail
            have hS0 : (fun w' : World => (w'.cell? ⟨w3.heap.size + 1, 0, none⟩ = some (.int .i64 x) ∧ w'.cell? ⟨w3.heap.size + 1, 1, none⟩ = some (.int .i64 y))) y3.drew := ⟨cellDr c0, cellDr c1⟩
            refine wp_region_noPanic ?_
            refine wp_region_held (S := fun w' : World => (w'.cell? ⟨w3.heap.size + 1, 0, none⟩ = some (.int .i64 x) ∧ w'.cell? ⟨w3.heap.size + 1, 1, none⟩ = some (.int .i64 y))) hmx ?_
            refine wpAnyH_take (i := 0) (v := .pointer (some ⟨w3.heap.size + 1, 0, none⟩)) rfl (by kernel_rfl) (by kernel_rfl) (by kernel_rfl) (fun _ _ _ h => h) (Or.inl ⟨by rfl, by rintro w' ⟨s1, s2⟩; go_simp⟩) hS0 ?_
            refine wpAnyH_take (i := 1) (v := .int .i64 x) rfl (by kernel_rfl) (by kernel_rfl) (by kernel_rfl) (fun _ _ _ h => h) (Or.inl ⟨by rfl, by rintro w' ⟨s1, s2⟩; go_simp⟩) hS0 ?_
            refine wpAnyH_take (i := 3) (v := .int .i64 3) rfl (by kernel_rfl) (by kernel_rfl) (by kernel_rfl) (fun _ _ _ h => h) (Or.inl ⟨by rfl, by rintro w' ⟨s1, s2⟩; go_simp⟩) hS0 ?_
            refine wpAnyH_take (i := 7) (v := .pointer (some ⟨w3.heap.size + 1, 1, none⟩)) rfl (by kernel_rfl) (by kernel_rfl) (by kernel_rfl) (fun _ _ _ h => h) (Or.inl ⟨by rfl, by rintro w' ⟨s1, s2⟩; go_simp⟩) hS0 ?_
            refine wpAnyH_take (i := 8) (v := .int .i64 y) rfl (by kernel_rfl) (by kernel_rfl) (by kernel_rfl) (fun _ _ _ h => h) (Or.inl ⟨by rfl, by rintro w' ⟨s1, s2⟩; go_simp⟩) hS0 ?_
            refine wpAnyH_take (i := 10) (v := .int .i64 3) rfl (by kernel_rfl) (by kernel_rfl) (by kernel_rfl) (fun _ _ _ h => h) (Or.inl ⟨by rfl, by rintro w' ⟨s1, s2⟩; go_simp⟩) hS0 ?_
            refine wpAnyH_all (rs := [2, 9]) (by kernel_rfl) (by simp) ?_
            intro i hi
            have hi' : i = 2 ∨ i = 9 := by simpa using hi
            rcases hi' with rfl | rfl
            · skip
              refine wpOp_now rfl (by rfl) ?_
              go_simp
              have hS1 : (fun w' : World => ((w'.cell? ⟨w3.heap.size + 1, 0, none⟩ = some (.int .i64 x) ∧ w'.cell? ⟨w3.heap.size + 1, 1, none⟩ = some (.int .i64 y)) ∧ w'.cell? ⟨y3.heap.size, 3, none⟩ = some (.int .i64 (0)))) (y3.alloc (.cells #[.int .i64 1, .int .i64 0, .int .i64 (-1), .int .i64 0] 3)).drew := ⟨⟨cellDr (cellAl c0), cellDr (cellAl c1)⟩, by go_simp⟩
              refine anyH_mono (S' := fun w' : World => ((w'.cell? ⟨w3.heap.size + 1, 0, none⟩ = some (.int .i64 x) ∧ w'.cell? ⟨w3.heap.size + 1, 1, none⟩ = some (.int .i64 y)) ∧ w'.cell? ⟨y3.heap.size, 3, none⟩ = some (.int .i64 (0)))) (fun _ h => h.1) _ _ _ _ ?_
              refine wpAnyH_take (i := 4) (v := .pointer (some ⟨y3.heap.size, 3, none⟩)) rfl (by kernel_rfl) (by kernel_rfl) (by kernel_rfl) (fun _ _ _ h => h) (Or.inl ⟨by rfl, by rintro w' ⟨⟨s1, s2⟩, s3⟩; go_simp⟩) hS1 ?_
              refine wpAnyH_take (i := 5) (v := .int .i64 (0)) rfl (by kernel_rfl) (by kernel_rfl) (by kernel_rfl) (fun _ _ _ h => h) (Or.inl ⟨by rfl, by rintro w' ⟨⟨s1, s2⟩, s3⟩; go_simp⟩) hS1 ?_
              refine wpAnyH_take (i := 6) (v := .int .i64 (IntKind.i64.wrap x)) rfl (by kernel_rfl) (by kernel_rfl) (by kernel_rfl) (fun _ _ _ h => h) (Or.inl ⟨by rfl, by rintro w' ⟨⟨s1, s2⟩, s3⟩; go_simp⟩) hS1 ?_
              refine wpAnyH_all (rs := [9]) (by kernel_rfl) (by simp) ?_
              intro i hi
              obtain rfl : i = 9 := by simpa using hi
              refine wpOp_now rfl (by rfl) ?_
              go_simp
              have hS2 : (fun w' : World => (((w'.cell? ⟨w3.heap.size + 1, 0, none⟩ = some (.int .i64 x) ∧ w'.cell? ⟨w3.heap.size + 1, 1, none⟩ = some (.int .i64 y)) ∧ w'.cell? ⟨y3.heap.size, 3, none⟩ = some (.int .i64 (0))) ∧ w'.cell? ⟨y3.heap.size + 1, 3, none⟩ = some (.int .i64 (-1)))) ((y3.alloc (.cells #[.int .i64 1, .int .i64 0, .int .i64 (-1), .int .i64 0] 3)).alloc (.cells #[.int .i64 0, .int .i64 1, .int .i64 0, .int .i64 (-1)] 3)).drew := ⟨⟨⟨cellDr (cellAl (cellAl c0)), cellDr (cellAl (cellAl c1))⟩, by go_simp⟩, by go_simp⟩
              first | refine ⟨⟨cellAl (cellAl c0), cellAl (cellAl c1)⟩, ?_⟩ | refine ⟨cellAl (cellAl c0), cellAl (cellAl c1), ?_⟩ | skip
              refine anyH_mono (S' := fun w' : World => (((w'.cell? ⟨w3.heap.size + 1, 0, none⟩ = some (.int .i64 x) ∧ w'.cell? ⟨w3.heap.size + 1, 1, none⟩ = some (.int .i64 y)) ∧ w'.cell? ⟨y3.heap.size, 3, none⟩ = some (.int .i64 (0))) ∧ w'.cell? ⟨y3.heap.size + 1, 3, none⟩ = some (.int .i64 (-1)))) (fun _ h => h.1) _ _ _ _ ?_
              refine wpAnyH_take (i := 11) (v := .pointer (some ⟨y3.heap.size + 1, 3, none⟩)) rfl (by kernel_rfl) (by kernel_rfl) (by kernel_rfl) (fun _ _ _ h => h) (Or.inl ⟨by rfl, by rintro w' ⟨⟨⟨s1, s2⟩, s3⟩, s4⟩; go_simp⟩) hS2 ?_
              refine wpAnyH_take (i := 12) (v := .int .i64 (-1)) rfl (by kernel_rfl) (by kernel_rfl) (by kernel_rfl) (fun _ _ _ h => h) (Or.inl ⟨by rfl, by rintro w' ⟨⟨⟨s1, s2⟩, s3⟩, s4⟩; go_simp⟩) hS2 ?_
              refine wpAnyH_take (i := 13) (v := .int .i64 (IntKind.i64.wrap (y + -1))) rfl (by kernel_rfl) (by kernel_rfl) (by kernel_rfl) (fun _ _ _ h => h) (Or.inl ⟨by rfl, by rintro w' ⟨⟨⟨s1, s2⟩, s3⟩, s4⟩; go_simp⟩) hS2 ?_
              refine wpAnyH_take (i := 14) (v := .agg #[.int .i64 (IntKind.i64.wrap x), .int .i64 (IntKind.i64.wrap (y + -1))]) rfl (by kernel_rfl) (by kernel_rfl) (by kernel_rfl) (fun _ _ _ h => h) (Or.inl ⟨by rfl, by rintro w' ⟨⟨⟨s1, s2⟩, s3⟩, s4⟩; go_simp⟩) hS2 ?_
              refine wpAnyH_all (rs := [15]) (by kernel_rfl) (by simp) ?_
              intro i hi
              obtain rfl : i = 15 := by simpa using hi
              refine wpOp_now rfl (by rfl) ?_
              go_simp
              clear hS0 hS1 hS2
              first | refine ⟨⟨cellAl (cellAl (cellS2 c0 hne9)), cellAl (cellAl (cellS2 c1 hne9))⟩, ?_⟩ | refine ⟨cellAl (cellAl (cellS2 c0 hne9)), cellAl (cellAl (cellS2 c1 hne9)), ?_⟩ | skip
              refine wpAnyH_done (by kernel_rfl) (NoPanic.normal ?_) _
              try simp only [Exit.inBlock, Exit.then]
              go_wp2_with fail
              go_roundw
              case rel => exact ⟨m + 1, kk + 1 + 1, _, _, by omega, by simp, by omega, ((((R.set (by show W.heap.size < w5.heap.size; omega) _).set (by show W.heap.size < w5.heap.size; omega) _).alloc _).alloc _).drew, ((((O5.set (.inr (Nat.le_refl _)) _).set (.inr (Nat.le_refl _)) _).alloc _).alloc _).drew, (heap_old _ _ (by simp; omega)).trans ((heap_old _ _ (by simp; omega)).trans (setB2 A5'))⟩
              case measure => simp [intOf]; omega
            · skip
              refine wpOp_now rfl (by rfl) ?_
              go_simp
              have hS1 : (fun w' : World => ((w'.cell? ⟨w3.heap.size + 1, 0, none⟩ = some (.int .i64 x) ∧ w'.cell? ⟨w3.heap.size + 1, 1, none⟩ = some (.int .i64 y)) ∧ w'.cell? ⟨y3.heap.size, 3, none⟩ = some (.int .i64 (-1)))) (y3.alloc (.cells #[.int .i64 0, .int .i64 1, .int .i64 0, .int .i64 (-1)] 3)).drew := ⟨⟨cellDr (cellAl c0), cellDr (cellAl c1)⟩, by go_simp⟩
              refine anyH_mono (S' := fun w' : World => ((w'.cell? ⟨w3.heap.size + 1, 0, none⟩ = some (.int .i64 x) ∧ w'.cell? ⟨w3.heap.size + 1, 1, none⟩ = some (.int .i64 y)) ∧ w'.cell? ⟨y3.heap.size, 3, none⟩ = some (.int .i64 (-1)))) (fun _ h => h.1) _ _ _ _ ?_
              refine wpAnyH_take (i := 11) (v := .pointer (some ⟨y3.heap.size, 3, none⟩)) rfl (by kernel_rfl) (by kernel_rfl) (by kernel_rfl) (fun _ _ _ h => h) (Or.inl ⟨by rfl, by rintro w' ⟨⟨s1, s2⟩, s3⟩; go_simp⟩) hS1 ?_
              refine wpAnyH_take (i := 12) (v := .int .i64 (-1)) rfl (by kernel_rfl) (by kernel_rfl) (by kernel_rfl) (fun _ _ _ h => h) (Or.inl ⟨by rfl, by rintro w' ⟨⟨s1, s2⟩, s3⟩; go_simp⟩) hS1 ?_
              refine wpAnyH_take (i := 13) (v := .int .i64 (IntKind.i64.wrap (y + -1))) rfl (by kernel_rfl) (by kernel_rfl) (by kernel_rfl) (fun _ _ _ h => h) (Or.inl ⟨by rfl, by rintro w' ⟨⟨s1, s2⟩, s3⟩; go_simp⟩) hS1 ?_
              refine wpAnyH_all (rs := [2]) (by kernel_rfl) (by simp) ?_
              intro i hi
              obtain rfl : i = 2 := by simpa using hi
              refine wpOp_now rfl (by rfl) ?_
              go_simp
              have hS2 : (fun w' : World => (((w'.cell? ⟨w3.heap.size + 1, 0, none⟩ = some (.int .i64 x) ∧ w'.cell? ⟨w3.heap.size + 1, 1, none⟩ = some (.int .i64 y)) ∧ w'.cell? ⟨y3.heap.size, 3, none⟩ = some (.int .i64 (-1))) ∧ w'.cell? ⟨y3.heap.size + 1, 3, none⟩ = some (.int .i64 (0)))) ((y3.alloc (.cells #[.int .i64 0, .int .i64 1, .int .i64 0, .int .i64 (-1)] 3)).alloc (.cells #[.int .i64 1, .int .i64 0, .int .i64 (-1), .int .i64 0] 3)).drew := ⟨⟨⟨cellDr (cellAl (cellAl c0)), cellDr (cellAl (cellAl c1))⟩, by go_simp⟩, by go_simp⟩
              first | refine ⟨⟨cellAl (cellAl c0), cellAl (cellAl c1)⟩, ?_⟩ | refine ⟨cellAl (cellAl c0), cellAl (cellAl c1), ?_⟩ | skip
              refine anyH_mono (S' := fun w' : World => (((w'.cell? ⟨w3.heap.size + 1, 0, none⟩ = some (.int .i64 x) ∧ w'.cell? ⟨w3.heap.size + 1, 1, none⟩ = some (.int .i64 y)) ∧ w'.cell? ⟨y3.heap.size, 3, none⟩ = some (.int .i64 (-1))) ∧ w'.cell? ⟨y3.heap.size + 1, 3, none⟩ = some (.int .i64 (0)))) (fun _ h => h.1) _ _ _ _ ?_
              refine wpAnyH_take (i := 4) (v := .pointer (some ⟨y3.heap.size + 1, 3, none⟩)) rfl (by kernel_rfl) (by kernel_rfl) (by kernel_rfl) (fun _ _ _ h => h) (Or.inl ⟨by rfl, by rintro w' ⟨⟨⟨s1, s2⟩, s3⟩, s4⟩; go_simp⟩) hS2 ?_
              refine wpAnyH_take (i := 5) (v := .int .i64 (0)) rfl (by kernel_rfl) (by kernel_rfl) (by kernel_rfl) (fun _ _ _ h => h) (Or.inl ⟨by rfl, by rintro w' ⟨⟨⟨s1, s2⟩, s3⟩, s4⟩; go_simp⟩) hS2 ?_
              refine wpAnyH_take (i := 6) (v := .int .i64 (IntKind.i64.wrap x)) rfl (by kernel_rfl) (by kernel_rfl) (by kernel_rfl) (fun _ _ _ h => h) (Or.inl ⟨by rfl, by rintro w' ⟨⟨⟨s1, s2⟩, s3⟩, s4⟩; go_simp⟩) hS2 ?_
              refine wpAnyH_take (i := 14) (v := .agg #[.int .i64 (IntKind.i64.wrap x), .int .i64 (IntKind.i64.wrap (y + -1))]) rfl (by kernel_rfl) (by kernel_rfl) (by kernel_rfl) (fun _ _ _ h => h) (Or.inl ⟨by rfl, by rintro w' ⟨⟨⟨s1, s2⟩, s3⟩, s4⟩; go_simp⟩) hS2 ?_
              refine wpAnyH_all (rs := [15]) (by kernel_rfl) (by simp) ?_
              intro i hi
              obtain rfl : i = 15 := by simpa using hi
              refine wpOp_now rfl (by rfl) ?_
              go_simp
              clear hS0 hS1 hS2
              first | refine ⟨⟨cellAl (cellAl (cellS2 c0 hne9)), cellAl (cellAl (cellS2 c1 hne9))⟩, ?_⟩ | refine ⟨cellAl (cellAl (cellS2 c0 hne9)), cellAl (cellAl (cellS2 c1 hne9)), ?_⟩ | skip
              refine wpAnyH_done (by kernel_rfl) (NoPanic.normal ?_) _
              try simp only [Exit.inBlock, Exit.then]
              go_wp2_with fail
              go_roundw
              case rel => exact ⟨m + 1, kk + 1 + 1, _, _, by omega, by simp, by omega, ((((R.set (by show W.heap.size < w5.heap.size; omega) _).set (by show W.heap.size < w5.heap.size; omega) _).alloc _).alloc _).drew, ((((O5.set (.inr (Nat.le_refl _)) _).set (.inr (Nat.le_refl _)) _).alloc _).alloc _).drew, (heap_old _ _ (by simp; omega)).trans ((heap_old _ _ (by simp; omega)).trans (setB2 A5'))⟩
              case measure => simp [intOf]; omega
    case neg =>
      obtain rfl : m = 6 := by omega
      go_wp2_with fail
      (rw [HQ1.out]; exact ⟨rfl, actFn (by kernel_rfl), _, _, _, by omega, R, O, A⟩)
end Go.Proofs.YtmdjhoknlplecaaGreatDoor
namespace Go.Proofs.YtmdjhoknlplecaaGreatDoor
open Go.RowKit Go.Sort

/-- The greatest up to k that fits; 0, if none does. -/
def mostF (F : Int → Bool) : Nat → Int
  | 0 => 0
  | k + 1 => if F ((k : Int) + 1) then (k : Int) + 1 else mostF F k
theorem mostF_bd (F : Int → Bool) (k : Nat) : 0 ≤ mostF F k ∧ mostF F k ≤ k := by
  induction k with
  | zero => exact ⟨Int.le_refl _, Int.le_refl _⟩
  | succ k ih => unfold mostF; split <;> omega
theorem mostF_ge {F : Int → Bool} {k : Nat} {r : Int} (h1 : 1 ≤ r) (h2 : r ≤ k) (hF : F r = true) : r ≤ mostF F k := by
  induction k with
  | zero => omega
  | succ k ih =>
    unfold mostF
    by_cases e : r = (k : Int) + 1
    · subst e; rw [if_pos hF]; exact Int.le_refl _
    · have := ih (by omega)
      split <;> omega
theorem mostF_fit {F : Int → Bool} {k : Nat} (h : 1 ≤ mostF F k) : F (mostF F k) = true := by
  induction k with
  | zero => unfold mostF at h; omega
  | succ k ih =>
    unfold mostF at h ⊢
    split
    · rename_i hF; exact hF
    · rename_i hF; rw [if_neg hF] at h; exact ih h
theorem mostF_none {F : Int → Bool} {k : Nat} (h : ∀ r : Int, 1 ≤ r → r ≤ (k : Int) → F r = false) : mostF F k = 0 := by
  have b := mostF_bd F k
  by_cases h1 : 1 ≤ mostF F k
  · have := mostF_fit h1
    rw [h _ h1 b.2] at this; cases this
  · omega
theorem mostF_min {F : Int → Bool} {k : Nat} {m : Int} (hm : 0 ≤ m) (h : ∀ r : Int, 1 ≤ r → r ≤ (k : Int) → F r = decide (r ≤ m)) : mostF F k = min m k := by
  have b := mostF_bd F k
  have up : mostF F k ≤ m := by
    by_cases h1 : 1 ≤ mostF F k
    · have := mostF_fit h1
      rw [h _ h1 b.2] at this; simpa using this
    · omega
  have dn : min m k ≤ mostF F k := by
    by_cases h1 : 1 ≤ min m (k : Int)
    · exact mostF_ge h1 (by omega) (by rw [h _ h1 (by omega)]; simp; omega)
    · omega
  omega
theorem sp_le' {r : Int} {f g : Int × Int} (hr : rV r = true) (hf : OkF f) (hg : OkF g) (h : LeF f g) (hs : spB r f = true) : spB r g = true := by
  unfold spB at *
  rw [decide_eq_true_eq] at *
  have o1 : OkF (r, 1) := ok_whole hr
  have := LeF.trans o1 hf hg (f := (r, 1)) (by unfold LeF; dsimp only; omega) h
  unfold LeF at this
  dsimp only at this
  omega
/-- A smaller tool fits where a larger one does. -/
theorem sp_less {r q : Int} {f : Int × Int} (hf : OkF f) (h : q ≤ r) (hs : spB r f = true) : spB q f = true := by
  unfold spB at *
  rw [decide_eq_true_eq] at *
  have := Int.mul_le_mul_of_nonneg_right h (show 0 ≤ f.2 by have := hf.pos; omega)
  omega
theorem fitV_less {o : List P2} {hs : List (List P2)} {r q : Int} {p : P2} (h1 : 1 ≤ q) (h2 : q ≤ r) (h : fitV o hs r p = true) : fitV o hs q p = true := by
  have hr : rV r = true := by unfold fitV at h; cases e : rV r <;> rw [e] at h <;> simp at h ⊢
  have hv : plV o hs = true := by unfold fitV at h; rw [hr] at h; cases e : plV o hs <;> rw [e] at h <;> simp at h ⊢
  have hp : ptB p.1 p.2 = true := by unfold fitV at h; rw [hr, hv] at h; cases e : ptB p.1 p.2 <;> rw [e] at h <;> simp at h ⊢
  have hq : rV q = true := by rw [rV_iff] at hr ⊢; omega
  rw [fitV_ok hr hv hp] at h
  rw [fitV_ok hq hv hp]
  unfold fitI at h ⊢
  rw [Bool.and_eq_true] at h ⊢
  exact ⟨h.1, sp_less (plFI_ok hv hp) h2 h.2⟩
/-- Without holes it fits, too. -/
theorem fitV_bare {o : List P2} {hs : List (List P2)} {r : Int} {p : P2} (h : fitV o hs r p = true) : fitV o [] r p = true := by
  have hr : rV r = true := by unfold fitV at h; cases e : rV r <;> rw [e] at h <;> simp at h ⊢
  have hv : plV o hs = true := by unfold fitV at h; rw [hr] at h; cases e : plV o hs <;> rw [e] at h <;> simp at h ⊢
  have hp : ptB p.1 p.2 = true := by unfold fitV at h; rw [hr, hv] at h; cases e : ptB p.1 p.2 <;> rw [e] at h <;> simp at h ⊢
  have L := (plV_iff _ _).1 hv
  have hv0 : plV o [] = true := okV_plV L.out
  rw [fitV_ok hr hv hp] at h
  rw [fitV_ok hr hv0 hp]
  unfold fitI at h ⊢
  rw [Bool.and_eq_true, decide_eq_true_eq] at h ⊢
  have hi := (plI_one hv p).1 h.1
  refine ⟨(plI_one hv0 p).2 ⟨hi.1, fun x hx => by simp at hx⟩, ?_⟩
  have m0 := plFI_least hv0 (p := p) hp
  obtain ⟨s, hs', e⟩ := List.mem_map.1 m0.mem
  have hin : s ∈ plE o hs := by rw [plE_eq hv]; rw [plE_eq hv0] at hs'; simp at hs'; exact List.mem_append_left _ hs'
  exact sp_le' hr (plFI_ok hv hp) (plFI_ok hv0 hp) (by rw [← e]; exact (plFI_least hv hp).le _ (List.mem_map.2 ⟨s, hin, rfl⟩)) h.2
set_option maxRecDepth 100000 in
set_option maxHeartbeats 2000000 in
theorem luMost_any (a ah : Option Addr) (la ca nh ch : Nat) (o : List P2) (hs : List (List P2)) (p : P2) (ad : Addr) (w : World) (h0 : Sent ad w) (h : Plt w a la ah nh o hs) :
    Calls Tryz.prog 26 #[.agg #[.slice a la ca, .slice ah nh ch], .agg #[.int .i64 p.1, .int .i64 p.2]] w fun e W' => e = .returned (.int .i64 (mostF (fun r => fitV o hs r p) 9)) ∧ Below w.heap.size w W' := by
  obtain ⟨W, hW, BW, TP, T⟩ := boxes2 w (.cells #[.slice a la ca, .slice ah nh ch] 33) (.cells #[.int .i64 p.1, .int .i64 p.2] 35)
  obtain ⟨F, hF⟩ : ∃ F : Int → Bool, F = fun r => fitV o hs r p := ⟨_, rfl⟩
  have HF : Hid (∀ r V, Below w.heap.size w V → Calls Tryz.prog 15 #[.agg #[.slice a la ca, .slice ah nh ch], .int .i64 r, .agg #[.int .i64 p.1, .int .i64 p.2]] V fun e W' => e = .returned (.bool (F r)) ∧ Below V.heap.size V W') := fun r V hV => by
    rw [hF]; exact toolFits_any a ah la ca nh ch o hs r p ad V (h0.below hV) (h.below hV)
  rw [← hF]
  clear hF
  go_enter Tryz.func26, Tryz.ntmps26
  go_upto_region 1 with fail
  rw [← hW]
  clear hW
  go_wp2_with fail
  go_loopw [5, 6] (fun s i wr => ∃ k : Nat, k ≤ 9 ∧ i = .int .i64 ((k : Int) + 1) ∧ s = .int .i64 (mostF F k) ∧ Below W.heap.size W wr) (fun _ i _ => 10 - (intOf i).toNat)
  case atStart => exact ⟨0, by omega, rfl, rfl, bw_refl _⟩
  case round =>
    obtain ⟨k, hk, rfl, rfl, hnx⟩ := hrel
    have K := bw_trans BW hnx
    have hbd := mostF_bd F k
    by_cases hlt : k < 9
    case pos =>
      obtain ⟨p0, p1⟩ := blk_2 (keep hnx TP)
      obtain ⟨t0, t1⟩ := blk_2 (keep hnx T)
      have hX := HF.out ((k : Int) + 1) wr K
      have HM : Hid (mostF F (k + 1) = if F ((k : Int) + 1) then (k : Int) + 1 else mostF F k) := rfl
      obtain ⟨b, hb⟩ : ∃ b, F ((k : Int) + 1) = b := ⟨_, rfl⟩
      rw [hb] at hX HM
      clear hb
      have m9 : (k : Int) + 1 ≤ 9 := by omega
      have m9' : ¬ 9 < (k : Int) + 1 := by omega
      cases b
      · have HM2 : Hid (mostF F (k + 1) = mostF F k) := HM.out
        clear HM
        generalize mostF F k = u at *
        go_wp2_with fail
        refine hX.mono ?_
        rintro e v2 ⟨rfl, J⟩
        go_wp2_with fail
        go_roundw
        case rel => exact ⟨k + 1, by omega, by simp, by rw [HM2.out], bw_trans hnx J⟩
        case measure => simp [intOf]; omega
      · have HM2 : Hid (mostF F (k + 1) = (k : Int) + 1) := HM.out
        clear HM
        generalize mostF F k = u at *
        go_wp2_with fail
        refine hX.mono ?_
        rintro e v2 ⟨rfl, J⟩
        go_wp2_with fail
        go_roundw
        case rel => exact ⟨k + 1, by omega, by simp, by rw [HM2.out], bw_trans hnx J⟩
        case measure => simp [intOf]; omega
    case neg =>
      obtain rfl : k = 9 := by omega
      have hgt : ¬ ((9 : Nat) : Int) + 1 ≤ 9 := by omega
      go_wp2_with fail
      go_ret
      exact ⟨rfl, K⟩
end Go.Proofs.YtmdjhoknlplecaaGreatDoor
namespace Go.Proofs.YtmdjhoknlplecaaGreatDoor
open Go.RowKit Go.Sort

theorem nearI_back {p q : P2} {r : Int} {a : P2} (hw : sgP p q = true) (ha : ptB a.1 a.2 = true) : nearI (q, p) r a = nearI (p, q) r a := by
  have hw' : sgP q p = true := by rw [sgP_back]; exact hw
  rw [near_far (s := (q, p)) hw' ha, near_far (s := (p, q)) hw ha, farS_of (s := (q, p)) hw' ha, farS_of (s := (p, q)) hw ha]
  dsimp only
  rw [far_back _ _ (sg_parts hw).2.2]
theorem hitI_back {p q : P2} {r : Int} {s : P2 × P2} (hw : sgP p q = true) (hs : sgP s.1 s.2 = true) : hitI q p r s = hitI p q r s := by
  unfold hitI
  rw [meetP_back1, nearI_back hw (sgP_pt hs).1, nearI_back hw (sgP_pt hs).2]
theorem dt_beside (p q : P2) : dt q.1 q.2 p.1 p.2 p.1 p.2 = dt p.1 p.2 q.1 q.2 q.1 q.2 := by
  unfold dt
  have e1 : (p.1 - q.1) * (p.1 - q.1) = (q.1 - p.1) * (q.1 - p.1) := by rw [← Int.neg_sub q.1 p.1, Int.neg_mul_neg]
  have e2 : (p.2 - q.2) * (p.2 - q.2) = (q.2 - p.2) * (q.2 - p.2) := by rw [← Int.neg_sub q.2 p.2, Int.neg_mul_neg]
  rw [e1, e2]
theorem mayI_back {o : List P2} {hs : List (List P2)} {r : Int} {p q : P2} (hr : rV r = true) (hv : plV o hs = true) (hp : ptB p.1 p.2 = true) (hq : ptB q.1 q.2 = true) (hd : dt p.1 p.2 q.1 q.2 q.1 q.2 = 1) : mayI o hs r q p = mayI o hs r p q := by
  rw [mayI_hit hr hv hp hq hd, mayI_hit hr hv hq hp ((dt_beside p q).trans hd)]
  have hw := beside_sg hp hq hd
  have e : ((plE o hs).all fun s => !hitI q p r s) = ((plE o hs).all fun s => !hitI p q r s) := by
    rw [Bool.eq_iff_iff, List.all_eq_true, List.all_eq_true]
    refine ⟨fun h s hs' => ?_, fun h s hs' => ?_⟩
    · rw [← hitI_back hw (plE_ok hv hs')]; exact h s hs'
    · rw [hitI_back hw (plE_ok hv hs')]; exact h s hs'
  rw [e]
  cases fitI o hs r p <;> cases fitI o hs r q <;> rfl
/-- Where it goes it goes back. -/
theorem mayV_back (o : List P2) (hs : List (List P2)) (r : Int) (p q : P2) : mayV o hs r q p = mayV o hs r p q := by
  unfold mayV
  cases hr : rV r
  · rfl
  cases hv : plV o hs
  · rfl
  cases hp : ptB p.1 p.2
  · cases ptB q.1 q.2 <;> rfl
  cases hq : ptB q.1 q.2
  · rfl
  rw [dt_beside]
  by_cases hd : dt p.1 p.2 q.1 q.2 q.1 q.2 = 1
  · rw [mayI_back hr hv hp hq hd]
  · rw [decide_eq_false hd]; rfl
theorem mayV_parts {o : List P2} {hs : List (List P2)} {r : Int} {p q : P2} (h : mayV o hs r p q = true) : rV r = true ∧ plV o hs = true ∧ ptB p.1 p.2 = true ∧ ptB q.1 q.2 = true ∧ dt p.1 p.2 q.1 q.2 q.1 q.2 = 1 ∧ mayI o hs r p q = true := by
  unfold mayV at h
  simp only [Bool.and_eq_true, decide_eq_true_eq] at h
  obtain ⟨⟨⟨⟨⟨h1, h2⟩, h3⟩, h4⟩, h5⟩, h6⟩ := h
  exact ⟨h1, h2, h3, h4, h5, h6⟩
theorem mayV_fit {o : List P2} {hs : List (List P2)} {r : Int} {p q : P2} (h : mayV o hs r p q = true) : fitV o hs r p = true ∧ fitV o hs r q = true := by
  obtain ⟨hr, hv, hp, hq, hd, hm⟩ := mayV_parts h
  unfold mayI at hm
  simp only [Bool.and_eq_true] at hm
  exact ⟨by rw [fitV_ok hr hv hp]; exact hm.1.1, by rw [fitV_ok hr hv hq]; exact hm.1.2⟩
/-- A smaller tool goes where a larger one does. -/
theorem mayV_less {o : List P2} {hs : List (List P2)} {r k : Int} {p q : P2} (h1 : 1 ≤ k) (h2 : k ≤ r) (h : mayV o hs r p q = true) : mayV o hs k p q = true := by
  obtain ⟨hr, hv, hp, hq, hd, hm⟩ := mayV_parts h
  have hf := mayV_fit h
  have hk : rV k = true := by rw [rV_iff] at hr ⊢; omega
  have f1 := fitV_less h1 h2 hf.1
  have f2 := fitV_less h1 h2 hf.2
  rw [fitV_ok hk hv hp] at f1
  rw [fitV_ok hk hv hq] at f2
  have hw := beside_sg hp hq hd
  unfold mayI at hm
  simp only [Bool.and_eq_true] at hm
  have ha := hm.2
  rw [List.all_eq_true] at ha
  unfold mayV
  rw [hk, hv, hp, hq, decide_eq_true hd]
  unfold mayI
  rw [f1, f2]
  simp only [Bool.true_and]
  rw [List.all_eq_true]
  intro s hs'
  have h9 := ha s hs'
  have hs2 := plE_ok hv hs'
  have e0 : apartV p.1 p.2 q.1 q.2 s.1.1 s.1.2 s.2.1 s.2.2 = apart p.1 p.2 q.1 q.2 s.1.1 s.1.2 s.2.1 s.2.2 := by
    unfold apartV; rw [show sgB p.1 p.2 q.1 q.2 = true from hw, show sgB s.1.1 s.1.2 s.2.1 s.2.2 = true from hs2]; rfl
  have hok : OkF (apart p.1 p.2 q.1 q.2 s.1.1 s.1.2 s.2.1 s.2.2) := apart_ok hw hs2
  unfold clB at h9 ⊢
  rw [e0] at h9 ⊢
  rw [sp_cmp hr hok] at h9
  rw [sp_cmp hk hok]
  exact sp_less hok h2 h9
end Go.Proofs.YtmdjhoknlplecaaGreatDoor
namespace Go.Proofs.YtmdjhoknlplecaaGreatDoor
open Go.RowKit

theorem cmpV_leF {f g : Int × Int} (hf : OkF f) (hg : OkF g) (h : LeF f g) : cmpV f.1 f.2 g.1 g.2 ≤ 0 := by
  unfold cmpV; rw [show okB f.1 f.2 = true from hf, show okB g.1 g.2 = true from hg]; show cmpI _ _ ≤ 0; unfold cmpI
  unfold LeF at h
  split
  · omega
  · rw [if_neg (by omega)]; omega
theorem cmpV_geF {f g : Int × Int} (hf : OkF f) (hg : OkF g) (h : LeF g f) : 0 ≤ cmpV f.1 f.2 g.1 g.2 := by
  unfold cmpV; rw [show okB f.1 f.2 = true from hf, show okB g.1 g.2 = true from hg]; show 0 ≤ cmpI _ _; unfold cmpI
  unfold LeF at h
  rw [if_neg (by omega)]
  split <;> omega
/-- Two fractions, field by field. -/
theorem three' (n m d b : Int) : (n == m) = false ∨ (n = m ∧ (d == b) = false) ∨ (n = m ∧ d = b) := by
  by_cases h : n = m
  · by_cases h2 : d = b
    · exact .inr (.inr ⟨h, h2⟩)
    · exact .inr (.inl ⟨h, by simpa using h2⟩)
  · exact .inl (by simpa using h)
end Go.Proofs.YtmdjhoknlplecaaGreatDoor
namespace Go.Proofs.YtmdjhoknlplecaaGreatDoor
open Go.RowKit Go.Sort

theorem sp_cmp2 {r : Int} {f : Int × Int} (h : rV r = true) (hf : OkF f) : decide (0 ≤ cmpV f.1 f.2 r 1) = spB r f := by
  unfold cmpV spB
  rw [ok_whole h, show okB f.1 f.2 = true from hf]
  show decide (0 ≤ cmpI (f.1 * 1) (r * f.2)) = _
  rw [Int.mul_one]
  unfold cmpI
  by_cases h1 : f.1 < r * f.2
  · rw [if_pos h1]; simp; omega
  · rw [if_neg h1]
    by_cases h2 : r * f.2 < f.1
    · rw [if_pos h2]; simp; omega
    · rw [if_neg h2]; simp; omega
set_option maxHeartbeats 1000000 in
theorem luSq_far (ax ay bx b_y : Int) (w : World) (ha : ptB ax ay = true) (hb : ptB bx b_y = true) :
    Calls Tryz.prog 28 #[.agg #[.int .i64 ax, .int .i64 ay], .agg #[.int .i64 bx, .int .i64 b_y]] w fun e w' => e = .returned (.int .i64 (dt bx b_y ax ay ax ay)) ∧ Below w.heap.size w w' := by
  rw [ptB_iff] at ha hb
  have h1 := prod_bd (x := ax - bx) (y := ax - bx) (by omega) (by omega) (by omega) (by omega)
  have h2 := prod_bd (x := ay - b_y) (y := ay - b_y) (by omega) (by omega) (by omega) (by omega)
  go_enter Tryz.func28, Tryz.ntmps28
  go_wp2
  go_ret
  exact ⟨rfl, (by repeat (first | exact bw_refl _ | assumption | apply bw_drewN | apply bw_drew | apply bw_alloc | refine bw_set ?_ (by simp) _))⟩

set_option maxRecDepth 100000 in
set_option maxHeartbeats 8000000 in
theorem mayApart_walk (w : World) (a0 : Option Addr) (len0 cap0 : Nat) (z0 : List Int) (r0 : IsRow .u8 w a0 len0 cap0 z0) (ad : Addr) (hs0 : Sent ad w) :
    Calls Tryz.prog 8 #[.slice a0 len0 cap0] w fun e w' => e = .returned (.bool true) ∧ Below w.heap.size w w' := by
  by_cases hl : 1048576 < len0
  · go_enter Tryz.func8, Tryz.ntmps8
    go_wp2
    go_ret
    exact ⟨rfl, bw_refl _⟩
  have hl0 : len0 ≤ 1048576 := by omega
  clear hl
  go_enter Tryz.func8, Tryz.ntmps8
  go_wp2_with fail
  refine (drawToolMay_any w _ r0 (bw_refl _)).mono ?_
  rintro e w1 ⟨⟨g, n, c, l⟩, hv, hs, r, x, y, x2, y2, he, hrb, hD, ⟨hs3, hst⟩, J1⟩
  obtain rfl : e = .returned (.tuple #[.agg #[.slice (some ⟨g, 0, none⟩) n c, hv], .int .i64 r, .agg #[.int .i64 x, .int .i64 y], .agg #[.int .i64 x2, .int .i64 y2]]) := he
  obtain ⟨gh, ch, rfl⟩ : ∃ gh ch, hv = .slice (some ⟨gh, 0, none⟩) hs.length ch := own_seat hD.2.2.1 hst
  obtain ⟨W, hW, BW, T, T2, T3⟩ := boxes3 w1 (.cells #[.slice (some ⟨g, 0, none⟩) n c, .slice (some ⟨gh, 0, none⟩) hs.length ch] 33) (.cells #[.int .i64 x, .int .i64 y] 35) (.cells #[.int .i64 x2, .int .i64 y2] 35)
  replace hD := hD.below BW
  have K := bw_trans J1 BW
  go_upto_region 6 with fail
  rw [← hW]
  clear hW BW J1
  have hPl := hD.plt
  obtain ⟨N, hNN⟩ : ∃ N, hs.length = N := ⟨_, rfl⟩
  have HN : Hid (hs.length = N) := hNN
  rw [hNN] at T hPl
  rw [hNN]
  clear hNN hst
  have hN3 : N ≤ 3 := by have := HN.out; omega
  obtain ⟨t0, t1⟩ := blk_2 T
  obtain ⟨u0, u1⟩ := blk_2 T2
  obtain ⟨v0, v1⟩ := blk_2 T3
  have zT := blk_lt T
  obtain ⟨hS, hHS⟩ : ∃ hS, hs.map LoopT.l = hS := ⟨_, rfl⟩
  rw [hHS] at hPl
  obtain ⟨ok, hok⟩ : ∃ ok, mayV l hS r (x, y) (x2, y2) = ok := ⟨_, rfl⟩
  have hbk : mayV l hS r (x2, y2) (x, y) = ok := by rw [mayV_back]; exact hok
  go_wp2_with fail
  refine (toolMay_any _ _ n c N ch l hS r (x, y) (x2, y2) ad _ (hs0.below K) hPl).mono ?_
  rw [hok]
  rintro e w11 ⟨rfl, J⟩
  replace K := bw_trans K J
  replace T := keep J T
  replace T2 := keep J T2
  replace T3 := keep J T3
  replace hPl := hPl.below J
  clear J t0 t1 u0 u1 v0 v1
  obtain ⟨t0, t1⟩ := blk_2 T
  obtain ⟨u0, u1⟩ := blk_2 T2
  obtain ⟨v0, v1⟩ := blk_2 T3
  have hbb : (ok != ok) = false := by simp
  have hb2 : (ok == ok) = true := by simp
  cases hv : plV l hS
  case false =>
    go_wp2_with fail
    refine (sToolMay_any _ _ n c N ch l hS r (x, y) (x2, y2) _ hPl).mono ?_
    rw [hok]
    rintro e w12 ⟨rfl, J⟩
    replace K := bw_trans K J
    replace T := keep J T
    replace T2 := keep J T2
    replace T3 := keep J T3
    replace hPl := hPl.below J
    clear J t0 t1 u0 u1 v0 v1
    obtain ⟨t0, t1⟩ := blk_2 T
    obtain ⟨u0, u1⟩ := blk_2 T2
    obtain ⟨v0, v1⟩ := blk_2 T3
    go_wp2_with fail
    refine (sPlateOk_any _ _ n c N ch l hS _ hPl).mono ?_
    rw [hv]
    rintro e w13 ⟨rfl, J⟩
    replace K := bw_trans K J
    replace T := keep J T
    replace T2 := keep J T2
    replace T3 := keep J T3
    replace hPl := hPl.below J
    clear J t0 t1 u0 u1 v0 v1
    obtain ⟨t0, t1⟩ := blk_2 T
    obtain ⟨u0, u1⟩ := blk_2 T2
    obtain ⟨v0, v1⟩ := blk_2 T3
    go_wp2_with fail
    refine (sToolMay_any _ _ n c N ch l hS r (x, y) (x2, y2) _ hPl).mono ?_
    rw [hok]
    rintro e w14 ⟨rfl, J⟩
    replace K := bw_trans K J
    replace T := keep J T
    replace T2 := keep J T2
    replace T3 := keep J T3
    replace hPl := hPl.below J
    clear J t0 t1 u0 u1 v0 v1
    obtain ⟨t0, t1⟩ := blk_2 T
    obtain ⟨u0, u1⟩ := blk_2 T2
    obtain ⟨v0, v1⟩ := blk_2 T3
    go_wp2_with fail
    go_ret
    exact ⟨by first | rfl | simp, K⟩
  cases hr : rV r
  case false =>
    have hn : r < 1 ∨ (¬ r < 1 ∧ 9 < r) := by rw [rV, decide_eq_false_iff_not] at hr; omega
    rcases hn with c1 | ⟨c1, c2⟩
    · skip
      go_wp2_with fail
      refine (sToolMay_any _ _ n c N ch l hS r (x, y) (x2, y2) _ hPl).mono ?_
      rw [hok]
      rintro e w15 ⟨rfl, J⟩
      replace K := bw_trans K J
      replace T := keep J T
      replace T2 := keep J T2
      replace T3 := keep J T3
      replace hPl := hPl.below J
      clear J t0 t1 u0 u1 v0 v1
      obtain ⟨t0, t1⟩ := blk_2 T
      obtain ⟨u0, u1⟩ := blk_2 T2
      obtain ⟨v0, v1⟩ := blk_2 T3
      go_wp2_with fail
      refine (sPlateOk_any _ _ n c N ch l hS _ hPl).mono ?_
      rw [hv]
      rintro e w16 ⟨rfl, J⟩
      replace K := bw_trans K J
      replace T := keep J T
      replace T2 := keep J T2
      replace T3 := keep J T3
      replace hPl := hPl.below J
      clear J t0 t1 u0 u1 v0 v1
      obtain ⟨t0, t1⟩ := blk_2 T
      obtain ⟨u0, u1⟩ := blk_2 T2
      obtain ⟨v0, v1⟩ := blk_2 T3
      go_wp2_with fail
      refine (sToolMay_any _ _ n c N ch l hS r (x, y) (x2, y2) _ hPl).mono ?_
      rw [hok]
      rintro e w17 ⟨rfl, J⟩
      replace K := bw_trans K J
      replace T := keep J T
      replace T2 := keep J T2
      replace T3 := keep J T3
      replace hPl := hPl.below J
      clear J t0 t1 u0 u1 v0 v1
      obtain ⟨t0, t1⟩ := blk_2 T
      obtain ⟨u0, u1⟩ := blk_2 T2
      obtain ⟨v0, v1⟩ := blk_2 T3
      go_wp2_with fail
      go_ret
      exact ⟨by first | rfl | simp, K⟩
    · skip
      go_wp2_with fail
      refine (sToolMay_any _ _ n c N ch l hS r (x, y) (x2, y2) _ hPl).mono ?_
      rw [hok]
      rintro e w18 ⟨rfl, J⟩
      replace K := bw_trans K J
      replace T := keep J T
      replace T2 := keep J T2
      replace T3 := keep J T3
      replace hPl := hPl.below J
      clear J t0 t1 u0 u1 v0 v1
      obtain ⟨t0, t1⟩ := blk_2 T
      obtain ⟨u0, u1⟩ := blk_2 T2
      obtain ⟨v0, v1⟩ := blk_2 T3
      go_wp2_with fail
      refine (sPlateOk_any _ _ n c N ch l hS _ hPl).mono ?_
      rw [hv]
      rintro e w19 ⟨rfl, J⟩
      replace K := bw_trans K J
      replace T := keep J T
      replace T2 := keep J T2
      replace T3 := keep J T3
      replace hPl := hPl.below J
      clear J t0 t1 u0 u1 v0 v1
      obtain ⟨t0, t1⟩ := blk_2 T
      obtain ⟨u0, u1⟩ := blk_2 T2
      obtain ⟨v0, v1⟩ := blk_2 T3
      go_wp2_with fail
      refine (sToolMay_any _ _ n c N ch l hS r (x, y) (x2, y2) _ hPl).mono ?_
      rw [hok]
      rintro e w20 ⟨rfl, J⟩
      replace K := bw_trans K J
      replace T := keep J T
      replace T2 := keep J T2
      replace T3 := keep J T3
      replace hPl := hPl.below J
      clear J t0 t1 u0 u1 v0 v1
      obtain ⟨t0, t1⟩ := blk_2 T
      obtain ⟨u0, u1⟩ := blk_2 T2
      obtain ⟨v0, v1⟩ := blk_2 T3
      go_wp2_with fail
      go_ret
      exact ⟨by first | rfl | simp, K⟩
  have hr9 := (rV_iff r).1 hr
  obtain ⟨hr1, hr2⟩ := hr9
  have c1 : ¬ r < 1 := by omega
  have c2 : ¬ 9 < r := by omega
  cases hp : ptB x y
  case false =>
    go_wp2_with fail
    refine (sToolMay_any _ _ n c N ch l hS r (x, y) (x2, y2) _ hPl).mono ?_
    rw [hok]
    rintro e w21 ⟨rfl, J⟩
    replace K := bw_trans K J
    replace T := keep J T
    replace T2 := keep J T2
    replace T3 := keep J T3
    replace hPl := hPl.below J
    clear J t0 t1 u0 u1 v0 v1
    obtain ⟨t0, t1⟩ := blk_2 T
    obtain ⟨u0, u1⟩ := blk_2 T2
    obtain ⟨v0, v1⟩ := blk_2 T3
    go_wp2_with fail
    refine (sPlateOk_any _ _ n c N ch l hS _ hPl).mono ?_
    rw [hv]
    rintro e w22 ⟨rfl, J⟩
    replace K := bw_trans K J
    replace T := keep J T
    replace T2 := keep J T2
    replace T3 := keep J T3
    replace hPl := hPl.below J
    clear J t0 t1 u0 u1 v0 v1
    obtain ⟨t0, t1⟩ := blk_2 T
    obtain ⟨u0, u1⟩ := blk_2 T2
    obtain ⟨v0, v1⟩ := blk_2 T3
    go_wp2_with fail
    refine (sPt_any x y _).mono ?_
    rw [hp]
    rintro e w23 ⟨rfl, J⟩
    replace K := bw_trans K J
    replace T := keep J T
    replace T2 := keep J T2
    replace T3 := keep J T3
    replace hPl := hPl.below J
    clear J t0 t1 u0 u1 v0 v1
    obtain ⟨t0, t1⟩ := blk_2 T
    obtain ⟨u0, u1⟩ := blk_2 T2
    obtain ⟨v0, v1⟩ := blk_2 T3
    go_wp2_with fail
    refine (sToolMay_any _ _ n c N ch l hS r (x, y) (x2, y2) _ hPl).mono ?_
    rw [hok]
    rintro e w24 ⟨rfl, J⟩
    replace K := bw_trans K J
    replace T := keep J T
    replace T2 := keep J T2
    replace T3 := keep J T3
    replace hPl := hPl.below J
    clear J t0 t1 u0 u1 v0 v1
    obtain ⟨t0, t1⟩ := blk_2 T
    obtain ⟨u0, u1⟩ := blk_2 T2
    obtain ⟨v0, v1⟩ := blk_2 T3
    go_wp2_with fail
    go_ret
    exact ⟨by first | rfl | simp, K⟩
  cases hq : ptB x2 y2
  case false =>
    go_wp2_with fail
    refine (sToolMay_any _ _ n c N ch l hS r (x, y) (x2, y2) _ hPl).mono ?_
    rw [hok]
    rintro e w25 ⟨rfl, J⟩
    replace K := bw_trans K J
    replace T := keep J T
    replace T2 := keep J T2
    replace T3 := keep J T3
    replace hPl := hPl.below J
    clear J t0 t1 u0 u1 v0 v1
    obtain ⟨t0, t1⟩ := blk_2 T
    obtain ⟨u0, u1⟩ := blk_2 T2
    obtain ⟨v0, v1⟩ := blk_2 T3
    go_wp2_with fail
    refine (sPlateOk_any _ _ n c N ch l hS _ hPl).mono ?_
    rw [hv]
    rintro e w26 ⟨rfl, J⟩
    replace K := bw_trans K J
    replace T := keep J T
    replace T2 := keep J T2
    replace T3 := keep J T3
    replace hPl := hPl.below J
    clear J t0 t1 u0 u1 v0 v1
    obtain ⟨t0, t1⟩ := blk_2 T
    obtain ⟨u0, u1⟩ := blk_2 T2
    obtain ⟨v0, v1⟩ := blk_2 T3
    go_wp2_with fail
    refine (sPt_any x y _).mono ?_
    rw [hp]
    rintro e w27 ⟨rfl, J⟩
    replace K := bw_trans K J
    replace T := keep J T
    replace T2 := keep J T2
    replace T3 := keep J T3
    replace hPl := hPl.below J
    clear J t0 t1 u0 u1 v0 v1
    obtain ⟨t0, t1⟩ := blk_2 T
    obtain ⟨u0, u1⟩ := blk_2 T2
    obtain ⟨v0, v1⟩ := blk_2 T3
    go_wp2_with fail
    refine (sPt_any x2 y2 _).mono ?_
    rw [hq]
    rintro e w28 ⟨rfl, J⟩
    replace K := bw_trans K J
    replace T := keep J T
    replace T2 := keep J T2
    replace T3 := keep J T3
    replace hPl := hPl.below J
    clear J t0 t1 u0 u1 v0 v1
    obtain ⟨t0, t1⟩ := blk_2 T
    obtain ⟨u0, u1⟩ := blk_2 T2
    obtain ⟨v0, v1⟩ := blk_2 T3
    go_wp2_with fail
    refine (sToolMay_any _ _ n c N ch l hS r (x, y) (x2, y2) _ hPl).mono ?_
    rw [hok]
    rintro e w29 ⟨rfl, J⟩
    replace K := bw_trans K J
    replace T := keep J T
    replace T2 := keep J T2
    replace T3 := keep J T3
    replace hPl := hPl.below J
    clear J t0 t1 u0 u1 v0 v1
    obtain ⟨t0, t1⟩ := blk_2 T
    obtain ⟨u0, u1⟩ := blk_2 T2
    obtain ⟨v0, v1⟩ := blk_2 T3
    go_wp2_with fail
    go_ret
    exact ⟨by first | rfl | simp, K⟩
  go_wp2_with fail
  refine (sToolMay_any _ _ n c N ch l hS r (x, y) (x2, y2) _ hPl).mono ?_
  rw [hok]
  rintro e w30 ⟨rfl, J⟩
  replace K := bw_trans K J
  replace T := keep J T
  replace T2 := keep J T2
  replace T3 := keep J T3
  replace hPl := hPl.below J
  clear J t0 t1 u0 u1 v0 v1
  obtain ⟨t0, t1⟩ := blk_2 T
  obtain ⟨u0, u1⟩ := blk_2 T2
  obtain ⟨v0, v1⟩ := blk_2 T3
  go_wp2_with fail
  refine (sPlateOk_any _ _ n c N ch l hS _ hPl).mono ?_
  rw [hv]
  rintro e w31 ⟨rfl, J⟩
  replace K := bw_trans K J
  replace T := keep J T
  replace T2 := keep J T2
  replace T3 := keep J T3
  replace hPl := hPl.below J
  clear J t0 t1 u0 u1 v0 v1
  obtain ⟨t0, t1⟩ := blk_2 T
  obtain ⟨u0, u1⟩ := blk_2 T2
  obtain ⟨v0, v1⟩ := blk_2 T3
  go_wp2_with fail
  refine (sPt_any x y _).mono ?_
  rw [hp]
  rintro e w32 ⟨rfl, J⟩
  replace K := bw_trans K J
  replace T := keep J T
  replace T2 := keep J T2
  replace T3 := keep J T3
  replace hPl := hPl.below J
  clear J t0 t1 u0 u1 v0 v1
  obtain ⟨t0, t1⟩ := blk_2 T
  obtain ⟨u0, u1⟩ := blk_2 T2
  obtain ⟨v0, v1⟩ := blk_2 T3
  go_wp2_with fail
  refine (sPt_any x2 y2 _).mono ?_
  rw [hq]
  rintro e w33 ⟨rfl, J⟩
  replace K := bw_trans K J
  replace T := keep J T
  replace T2 := keep J T2
  replace T3 := keep J T3
  replace hPl := hPl.below J
  clear J t0 t1 u0 u1 v0 v1
  obtain ⟨t0, t1⟩ := blk_2 T
  obtain ⟨u0, u1⟩ := blk_2 T2
  obtain ⟨v0, v1⟩ := blk_2 T3
  have hfit : ok = (decide (dt x y x2 y2 x2 y2 = 1) && (fitV l hS r (x, y) && fitV l hS r (x2, y2) && (plE l hS).all (clB r 1 (x, y) (x2, y2)))) := by
    rw [← hok, fitV_ok hr hv hp, fitV_ok hr hv hq]; unfold mayV mayI; rw [hr, hv, show ptB (x, y).1 (x, y).2 = true from hp, show ptB (x2, y2).1 (x2, y2).2 = true from hq]; rfl
  have hz0 := dt_beside (x, y) (x2, y2)
  dsimp only at hz0
  rw [← hz0] at hfit
  obtain ⟨z, hz⟩ : ∃ z, dt x2 y2 x y x y = z := ⟨_, rfl⟩
  rw [hz] at hfit
  obtain ⟨b1, hb1⟩ : ∃ b, fitV l hS r (x, y) = b := ⟨_, rfl⟩
  obtain ⟨b2, hb2'⟩ : ∃ b, fitV l hS r (x2, y2) = b := ⟨_, rfl⟩
  rw [hb1, hb2'] at hfit
  have HF : Hid (ok = (decide (z = 1) && (b1 && b2 && (plE l hS).all (clB r 1 (x, y) (x2, y2))))) := hfit
  have e1 : ofN r 1 = r ∧ ofD r 1 = 1 := of_one r (by omega) (by omega)
  have e2 : inB r 1 = true := by rw [inB_iff]; omega
  have HG : Hid (∀ V, Sent ad V → Calls Tryz.prog 22 #[.int .i64 r, .int .i64 1] V fun e W' => e = .returned (.tuple #[.agg #[.int .i64 r, .int .i64 1], .bool true]) ∧ Below V.heap.size V W') := fun V hV => by
    have hG := fracOf_any r 1 ad V hV
    rw [e1.1, e1.2, e2] at hG
    exact hG
  clear hfit hz0 e1 e2 hok hbk
  by_cases hz1 : z = 1
  case neg =>
    have hz2 : (z == 1) = false := by simpa using hz1
    have HK : Hid (ok = false) := by change _ = _; rw [HF.out, decide_eq_false hz1]; rfl
    go_wp2_with fail
    refine (luSq_far x y x2 y2 _ hp hq).mono ?_
    rw [hz]
    rintro e w34 ⟨rfl, J⟩
    replace K := bw_trans K J
    replace T := keep J T
    replace T2 := keep J T2
    replace T3 := keep J T3
    replace hPl := hPl.below J
    clear J t0 t1 u0 u1 v0 v1
    obtain ⟨t0, t1⟩ := blk_2 T
    obtain ⟨u0, u1⟩ := blk_2 T2
    obtain ⟨v0, v1⟩ := blk_2 T3
    go_wp2_with fail
    refine (HG.out _ (hs0.below K)).mono ?_
    rintro e wg ⟨rfl, J⟩
    obtain ⟨W3, hW3, B3, X⟩ : ∃ W3, W3 = wg.alloc (.cells #[.int .i64 r, .int .i64 1] 47) ∧ Below wg.heap.size wg W3 ∧ W3.heap[wg.heap.size]? = some (.cells #[.int .i64 r, .int .i64 1] 47 (0, 0)) := ⟨_, rfl, (by repeat (first | exact bw_refl _ | assumption | apply bw_drewN | apply bw_drew | apply bw_alloc | refine bw_set ?_ (by simp) _)), heap_new _ _⟩
    have J3 := bw_trans J B3
    replace K := bw_trans K J3
    replace T := keep J3 T
    replace T2 := keep J3 T2
    replace T3 := keep J3 T3
    replace hPl := hPl.below J3
    clear J J3 B3 t0 t1 u0 u1 v0 v1
    obtain ⟨t0, t1⟩ := blk_2 T
    obtain ⟨u0, u1⟩ := blk_2 T2
    obtain ⟨v0, v1⟩ := blk_2 T3
    go_upto_region 9 with fail
    rw [← hW3]
    clear hW3
    go_wp2_with fail
    refine (plateEdges_ans _ _ n c N ch l hS _ hPl).mono ?_
    rintro e we ⟨v, rfl, hA, J⟩
    replace K := bw_trans K J
    replace T := keep J T
    replace T2 := keep J T2
    replace T3 := keep J T3
    replace X := keep J X
    clear J t0 t1 u0 u1 v0 v1
    obtain ⟨t0, t1⟩ := blk_2 T
    obtain ⟨u0, u1⟩ := blk_2 T2
    obtain ⟨v0, v1⟩ := blk_2 T3
    have n24 := plE_len l hS
    have n3 := plE_ne hv
    rcases hA with ⟨h0, _⟩ | ⟨ge, ce, rfl, _, _, _, hO, hR⟩
    · exfalso; rw [h0] at n3; simp at n3
    obtain ⟨NE, hNE⟩ : ∃ NE, (plE l hS).length = NE := ⟨_, rfl⟩
    rw [hNE]
    go_wp2_with fail
    go_loopw [8, 12] (fun cv i wr => cv = .bool false ∧ i = .int .i64 0 ∧ Below we.heap.size we wr) (fun _ _ _ => 0)
    case atStart => exact ⟨rfl, rfl, bw_refl _⟩
    case round =>
      obtain ⟨rfl, rfl, hnx⟩ := hrel
      go_wp2_with fail
      go_ret
      exact ⟨by rw [HK.out]; first | rfl | simp, bw_trans K hnx⟩
  case pos =>
    cases b1
    case false =>
      have HK : Hid (ok = false) := by change _ = _; rw [HF.out]; simp
      go_wp2_with fail
      refine (luSq_far x y x2 y2 _ hp hq).mono ?_
      rw [hz, hz1]
      rintro e w35 ⟨rfl, J⟩
      replace K := bw_trans K J
      replace T := keep J T
      replace T2 := keep J T2
      replace T3 := keep J T3
      replace hPl := hPl.below J
      clear J t0 t1 u0 u1 v0 v1
      obtain ⟨t0, t1⟩ := blk_2 T
      obtain ⟨u0, u1⟩ := blk_2 T2
      obtain ⟨v0, v1⟩ := blk_2 T3
      go_wp2_with fail
      refine (toolFits_any _ _ n c N ch l hS r (x, y) ad _ (hs0.below K) hPl).mono ?_
      rw [hb1]
      rintro e w36 ⟨rfl, J⟩
      replace K := bw_trans K J
      replace T := keep J T
      replace T2 := keep J T2
      replace T3 := keep J T3
      replace hPl := hPl.below J
      clear J t0 t1 u0 u1 v0 v1
      obtain ⟨t0, t1⟩ := blk_2 T
      obtain ⟨u0, u1⟩ := blk_2 T2
      obtain ⟨v0, v1⟩ := blk_2 T3
      go_wp2_with fail
      refine (HG.out _ (hs0.below K)).mono ?_
      rintro e wg ⟨rfl, J⟩
      obtain ⟨W3, hW3, B3, X⟩ : ∃ W3, W3 = wg.alloc (.cells #[.int .i64 r, .int .i64 1] 47) ∧ Below wg.heap.size wg W3 ∧ W3.heap[wg.heap.size]? = some (.cells #[.int .i64 r, .int .i64 1] 47 (0, 0)) := ⟨_, rfl, (by repeat (first | exact bw_refl _ | assumption | apply bw_drewN | apply bw_drew | apply bw_alloc | refine bw_set ?_ (by simp) _)), heap_new _ _⟩
      have J3 := bw_trans J B3
      replace K := bw_trans K J3
      replace T := keep J3 T
      replace T2 := keep J3 T2
      replace T3 := keep J3 T3
      replace hPl := hPl.below J3
      clear J J3 B3 t0 t1 u0 u1 v0 v1
      obtain ⟨t0, t1⟩ := blk_2 T
      obtain ⟨u0, u1⟩ := blk_2 T2
      obtain ⟨v0, v1⟩ := blk_2 T3
      go_upto_region 9 with fail
      rw [← hW3]
      clear hW3
      go_wp2_with fail
      refine (plateEdges_ans _ _ n c N ch l hS _ hPl).mono ?_
      rintro e we ⟨v, rfl, hA, J⟩
      replace K := bw_trans K J
      replace T := keep J T
      replace T2 := keep J T2
      replace T3 := keep J T3
      replace X := keep J X
      clear J t0 t1 u0 u1 v0 v1
      obtain ⟨t0, t1⟩ := blk_2 T
      obtain ⟨u0, u1⟩ := blk_2 T2
      obtain ⟨v0, v1⟩ := blk_2 T3
      have n24 := plE_len l hS
      have n3 := plE_ne hv
      rcases hA with ⟨h0, _⟩ | ⟨ge, ce, rfl, _, _, _, hO, hR⟩
      · exfalso; rw [h0] at n3; simp at n3
      obtain ⟨NE, hNE⟩ : ∃ NE, (plE l hS).length = NE := ⟨_, rfl⟩
      rw [hNE]
      go_wp2_with fail
      go_loopw [8, 12] (fun cv i wr => cv = .bool false ∧ i = .int .i64 0 ∧ Below we.heap.size we wr) (fun _ _ _ => 0)
      case atStart => exact ⟨rfl, rfl, bw_refl _⟩
      case round =>
        obtain ⟨rfl, rfl, hnx⟩ := hrel
        go_wp2_with fail
        go_ret
        exact ⟨by rw [HK.out]; first | rfl | simp, bw_trans K hnx⟩
    case true =>
      cases b2
      case false =>
        have HK : Hid (ok = false) := by change _ = _; rw [HF.out]; simp
        go_wp2_with fail
        refine (luSq_far x y x2 y2 _ hp hq).mono ?_
        rw [hz, hz1]
        rintro e w37 ⟨rfl, J⟩
        replace K := bw_trans K J
        replace T := keep J T
        replace T2 := keep J T2
        replace T3 := keep J T3
        replace hPl := hPl.below J
        clear J t0 t1 u0 u1 v0 v1
        obtain ⟨t0, t1⟩ := blk_2 T
        obtain ⟨u0, u1⟩ := blk_2 T2
        obtain ⟨v0, v1⟩ := blk_2 T3
        go_wp2_with fail
        refine (toolFits_any _ _ n c N ch l hS r (x, y) ad _ (hs0.below K) hPl).mono ?_
        rw [hb1]
        rintro e w38 ⟨rfl, J⟩
        replace K := bw_trans K J
        replace T := keep J T
        replace T2 := keep J T2
        replace T3 := keep J T3
        replace hPl := hPl.below J
        clear J t0 t1 u0 u1 v0 v1
        obtain ⟨t0, t1⟩ := blk_2 T
        obtain ⟨u0, u1⟩ := blk_2 T2
        obtain ⟨v0, v1⟩ := blk_2 T3
        go_wp2_with fail
        refine (toolFits_any _ _ n c N ch l hS r (x2, y2) ad _ (hs0.below K) hPl).mono ?_
        rw [hb2']
        rintro e w39 ⟨rfl, J⟩
        replace K := bw_trans K J
        replace T := keep J T
        replace T2 := keep J T2
        replace T3 := keep J T3
        replace hPl := hPl.below J
        clear J t0 t1 u0 u1 v0 v1
        obtain ⟨t0, t1⟩ := blk_2 T
        obtain ⟨u0, u1⟩ := blk_2 T2
        obtain ⟨v0, v1⟩ := blk_2 T3
        go_wp2_with fail
        refine (HG.out _ (hs0.below K)).mono ?_
        rintro e wg ⟨rfl, J⟩
        obtain ⟨W3, hW3, B3, X⟩ : ∃ W3, W3 = wg.alloc (.cells #[.int .i64 r, .int .i64 1] 47) ∧ Below wg.heap.size wg W3 ∧ W3.heap[wg.heap.size]? = some (.cells #[.int .i64 r, .int .i64 1] 47 (0, 0)) := ⟨_, rfl, (by repeat (first | exact bw_refl _ | assumption | apply bw_drewN | apply bw_drew | apply bw_alloc | refine bw_set ?_ (by simp) _)), heap_new _ _⟩
        have J3 := bw_trans J B3
        replace K := bw_trans K J3
        replace T := keep J3 T
        replace T2 := keep J3 T2
        replace T3 := keep J3 T3
        replace hPl := hPl.below J3
        clear J J3 B3 t0 t1 u0 u1 v0 v1
        obtain ⟨t0, t1⟩ := blk_2 T
        obtain ⟨u0, u1⟩ := blk_2 T2
        obtain ⟨v0, v1⟩ := blk_2 T3
        go_upto_region 9 with fail
        rw [← hW3]
        clear hW3
        go_wp2_with fail
        refine (plateEdges_ans _ _ n c N ch l hS _ hPl).mono ?_
        rintro e we ⟨v, rfl, hA, J⟩
        replace K := bw_trans K J
        replace T := keep J T
        replace T2 := keep J T2
        replace T3 := keep J T3
        replace X := keep J X
        clear J t0 t1 u0 u1 v0 v1
        obtain ⟨t0, t1⟩ := blk_2 T
        obtain ⟨u0, u1⟩ := blk_2 T2
        obtain ⟨v0, v1⟩ := blk_2 T3
        have n24 := plE_len l hS
        have n3 := plE_ne hv
        rcases hA with ⟨h0, _⟩ | ⟨ge, ce, rfl, _, _, _, hO, hR⟩
        · exfalso; rw [h0] at n3; simp at n3
        obtain ⟨NE, hNE⟩ : ∃ NE, (plE l hS).length = NE := ⟨_, rfl⟩
        rw [hNE]
        go_wp2_with fail
        go_loopw [8, 12] (fun cv i wr => cv = .bool false ∧ i = .int .i64 0 ∧ Below we.heap.size we wr) (fun _ _ _ => 0)
        case atStart => exact ⟨rfl, rfl, bw_refl _⟩
        case round =>
          obtain ⟨rfl, rfl, hnx⟩ := hrel
          go_wp2_with fail
          go_ret
          exact ⟨by rw [HK.out]; first | rfl | simp, bw_trans K hnx⟩
      case true =>
        have HK : Hid (ok = (plE l hS).all (clB r 1 (x, y) (x2, y2))) := by change _ = _; rw [HF.out, decide_eq_true hz1]; rfl
        go_wp2_with fail
        refine (luSq_far x y x2 y2 _ hp hq).mono ?_
        rw [hz, hz1]
        rintro e w40 ⟨rfl, J⟩
        replace K := bw_trans K J
        replace T := keep J T
        replace T2 := keep J T2
        replace T3 := keep J T3
        replace hPl := hPl.below J
        clear J t0 t1 u0 u1 v0 v1
        obtain ⟨t0, t1⟩ := blk_2 T
        obtain ⟨u0, u1⟩ := blk_2 T2
        obtain ⟨v0, v1⟩ := blk_2 T3
        go_wp2_with fail
        refine (toolFits_any _ _ n c N ch l hS r (x, y) ad _ (hs0.below K) hPl).mono ?_
        rw [hb1]
        rintro e w41 ⟨rfl, J⟩
        replace K := bw_trans K J
        replace T := keep J T
        replace T2 := keep J T2
        replace T3 := keep J T3
        replace hPl := hPl.below J
        clear J t0 t1 u0 u1 v0 v1
        obtain ⟨t0, t1⟩ := blk_2 T
        obtain ⟨u0, u1⟩ := blk_2 T2
        obtain ⟨v0, v1⟩ := blk_2 T3
        go_wp2_with fail
        refine (toolFits_any _ _ n c N ch l hS r (x2, y2) ad _ (hs0.below K) hPl).mono ?_
        rw [hb2']
        rintro e w42 ⟨rfl, J⟩
        replace K := bw_trans K J
        replace T := keep J T
        replace T2 := keep J T2
        replace T3 := keep J T3
        replace hPl := hPl.below J
        clear J t0 t1 u0 u1 v0 v1
        obtain ⟨t0, t1⟩ := blk_2 T
        obtain ⟨u0, u1⟩ := blk_2 T2
        obtain ⟨v0, v1⟩ := blk_2 T3
        go_wp2_with fail
        refine (HG.out _ (hs0.below K)).mono ?_
        rintro e wg ⟨rfl, J⟩
        obtain ⟨W3, hW3, B3, X⟩ : ∃ W3, W3 = wg.alloc (.cells #[.int .i64 r, .int .i64 1] 47) ∧ Below wg.heap.size wg W3 ∧ W3.heap[wg.heap.size]? = some (.cells #[.int .i64 r, .int .i64 1] 47 (0, 0)) := ⟨_, rfl, (by repeat (first | exact bw_refl _ | assumption | apply bw_drewN | apply bw_drew | apply bw_alloc | refine bw_set ?_ (by simp) _)), heap_new _ _⟩
        have J3 := bw_trans J B3
        replace K := bw_trans K J3
        replace T := keep J3 T
        replace T2 := keep J3 T2
        replace T3 := keep J3 T3
        replace hPl := hPl.below J3
        clear J J3 B3 t0 t1 u0 u1 v0 v1
        obtain ⟨t0, t1⟩ := blk_2 T
        obtain ⟨u0, u1⟩ := blk_2 T2
        obtain ⟨v0, v1⟩ := blk_2 T3
        go_upto_region 9 with fail
        rw [← hW3]
        clear hW3
        go_wp2_with fail
        refine (plateEdges_ans _ _ n c N ch l hS _ hPl).mono ?_
        rintro e we ⟨v, rfl, hA, J⟩
        replace K := bw_trans K J
        replace T := keep J T
        replace T2 := keep J T2
        replace T3 := keep J T3
        replace X := keep J X
        clear J t0 t1 u0 u1 v0 v1
        obtain ⟨t0, t1⟩ := blk_2 T
        obtain ⟨u0, u1⟩ := blk_2 T2
        obtain ⟨v0, v1⟩ := blk_2 T3
        have n24 := plE_len l hS
        have n3 := plE_ne hv
        rcases hA with ⟨h0, _⟩ | ⟨ge, ce, rfl, _, _, _, hO, hR⟩
        · exfalso; rw [h0] at n3; simp at n3
        obtain ⟨NE, hNE⟩ : ∃ NE, (plE l hS).length = NE := ⟨_, rfl⟩
        rw [hNE]
        go_wp2_with fail
        have hw := beside_sg (p := (x, y)) (q := (x2, y2)) hp hq (by rw [← dt_beside]; exact hz.trans hz1)
        have HC : Hid (∀ j, j < NE → ∃ f : Int × Int, (∀ V, Sent ad V → Calls Tryz.prog 30 #[.agg #[.int .i64 x, .int .i64 y, .int .i64 x2, .int .i64 y2], .agg #[.int .i64 (sAt (plE l hS) j).1.1, .int .i64 (sAt (plE l hS) j).1.2, .int .i64 (sAt (plE l hS) j).2.1, .int .i64 (sAt (plE l hS) j).2.2]] V fun e w' => e = .returned (.agg #[.int .i64 f.1, .int .i64 f.2]) ∧ Below V.heap.size V w') ∧ clB r 1 (x, y) (x2, y2) (sAt (plE l hS) j) = decide (0 ≤ cmpV f.1 f.2 r 1)) := fun j hj => by
          have hs2 := plE_ok hv (sAt_mem (show j < (plE l hS).length by omega))
          have e0 : apartV x y x2 y2 (sAt (plE l hS) j).1.1 (sAt (plE l hS) j).1.2 (sAt (plE l hS) j).2.1 (sAt (plE l hS) j).2.2 = apart x y x2 y2 (sAt (plE l hS) j).1.1 (sAt (plE l hS) j).1.2 (sAt (plE l hS) j).2.1 (sAt (plE l hS) j).2.2 := apartV_ok hw hs2
          have hok : OkF (apart x y x2 y2 (sAt (plE l hS) j).1.1 (sAt (plE l hS) j).1.2 (sAt (plE l hS) j).2.1 (sAt (plE l hS) j).2.2) := apart_ok hw hs2
          refine ⟨apart x y x2 y2 (sAt (plE l hS) j).1.1 (sAt (plE l hS) j).1.2 (sAt (plE l hS) j).2.1 (sAt (plE l hS) j).2.2, fun V hV => ?_, ?_⟩
          · have := segApart_any x y x2 y2 (sAt (plE l hS) j).1.1 (sAt (plE l hS) j).1.2 (sAt (plE l hS) j).2.1 (sAt (plE l hS) j).2.2 ad V hV
            rw [e0] at this; exact this
          · unfold clB; rw [e0, sp_cmp hr hok, sp_cmp2 hr hok]
        have HAl : Hid (((plE l hS).all (clB r 1 (x, y) (x2, y2))) = true ↔ ∀ j, j < NE → clB r 1 (x, y) (x2, y2) (sAt (plE l hS) j) = true) := by
          change _ ↔ _
          rw [List.all_eq_true]
          constructor
          · intro h k hk; exact h _ (sAt_mem (show k < (plE l hS).length by omega))
          · intro h s hs'
            obtain ⟨k, hk, rfl⟩ := List.getElem_of_mem hs'
            have this := h k (by omega)
            rwa [show sAt (plE l hS) k = (plE l hS)[k] by unfold sAt; rw [List.getElem?_eq_getElem hk, Option.getD_some]] at this
        have HS : Hid (∀ k, k < NE → we.cell? ⟨ge, k * 4, none⟩ = some (.int .i64 (sAt (plE l hS) k).1.1) ∧ we.cell? ⟨ge, k * 4 + 1, none⟩ = some (.int .i64 (sAt (plE l hS) k).1.2) ∧ we.cell? ⟨ge, k * 4 + 2, none⟩ = some (.int .i64 (sAt (plE l hS) k).2.1) ∧ we.cell? ⟨ge, k * 4 + 3, none⟩ = some (.int .i64 (sAt (plE l hS) k).2.2)) := fun k hk => hR k (by omega)
        have zg := hO.lt
        have hse := hs0.below K
        have hNE : NE ≤ 24 := by omega
        generalize hCC : clB r 1 (x, y) (x2, y2) = C at HC HAl HK
        clear hCC t0 t1 u0 u1 v0 v1 hPl hbb hb2 hz hR hO
        go_loopw [8, 12] (fun cv i wr => ∃ (k : Nat) (b : Bool), k ≤ NE ∧ i = .int .i64 k ∧ cv = .bool b ∧ (b = true → ∀ j, j < k → C (sAt (plE l hS) j) = true) ∧ (b = false → ∃ j, j < NE ∧ C (sAt (plE l hS) j) = false) ∧ Below we.heap.size we wr) (fun _ i _ => NE - (intOf i).toNat)
        case atStart => exact ⟨0, true, Nat.zero_le _, rfl, rfl, fun _ j hj => absurd hj (Nat.not_lt_zero _), (fun h => by cases h), bw_refl _⟩
        case round =>
          obtain ⟨k, b, hk, rfl, rfl, hb1, hb0, hnx⟩ := hrel
          have KW := bw_trans K hnx
          cases b
          case false =>
            have e1 : Hid (ok = false) := by
              obtain ⟨j, hj, hc⟩ := hb0 rfl
              change _ = _
              rw [HK.out, Bool.eq_false_iff]
              intro h
              rw [HAl.out.1 h j hj] at hc; cases hc
            clear hb1 hb0
            go_wp2_with fail
            go_ret
            exact ⟨by rw [e1.out]; first | rfl | simp, KW⟩
          case true =>
            have HB : Hid (∀ j, j < k → C (sAt (plE l hS) j) = true) := hb1 rfl
            clear hb1 hb0
            by_cases hlt : k < NE
            case pos =>
              obtain ⟨s0, s1, s2, s3⟩ := HS.out k hlt
              obtain ⟨d0, d1, d2, d3⟩ := regrow4 ⟨(hnx.cell (p := ⟨ge, k * 4, none⟩) zg).trans s0, (hnx.cell (p := ⟨ge, k * 4 + 1, none⟩) zg).trans s1, (hnx.cell (p := ⟨ge, k * 4 + 2, none⟩) zg).trans s2, (hnx.cell (p := ⟨ge, k * 4 + 3, none⟩) zg).trans s3⟩
              obtain ⟨y0, y1⟩ := reg_2 (keep hnx T2)
              obtain ⟨q0, q1⟩ := reg_2 (keep hnx T3)
              obtain ⟨x0, x1⟩ := reg_2 (keep hnx X)
              have i0 : (0 : Int) ≤ (k : Int) := Int.natCast_nonneg _
              have i1 : (k : Int) < (NE : Int) := by omega
              have i2 : (k : Int) ≤ 24 := by omega
              obtain ⟨f, hA, hC⟩ := HC.out k hlt
              obtain ⟨cq, hcq⟩ : ∃ cq, cmpV f.1 f.2 r 1 = cq := ⟨_, rfl⟩
              have HH : Hid (C (sAt (plE l hS) k) = decide (0 ≤ cq)) := by rw [← hcq]; exact hC
              have HA1 : Hid (∀ d os, Calls Tryz.prog 30 #[.agg #[.int .i64 x, .int .i64 y, .int .i64 x2, .int .i64 y2], .agg #[.int .i64 (sAt (plE l hS) k).1.1, .int .i64 (sAt (plE l hS) k).1.2, .int .i64 (sAt (plE l hS) k).2.1, .int .i64 (sAt (plE l hS) k).2.2]] (grow (redrawn wr d) os) fun e w' => e = .returned (.agg #[.int .i64 f.1, .int .i64 f.2]) ∧ Below (grow (redrawn wr d) os).heap.size (grow (redrawn wr d) os) w') := fun d os => hA _ ((hse.below hnx).below (below_regrown wr d os))
              have HA2 : Hid (∀ d os, Calls Tryz.prog 24 #[.agg #[.int .i64 f.1, .int .i64 f.2], .agg #[.int .i64 r, .int .i64 1]] (grow (redrawn wr d) os) fun e w' => e = .returned (.int .i64 cq) ∧ Below (grow (redrawn wr d) os).heap.size (grow (redrawn wr d) os) w') := fun d os => by
                have := fracCmp_any f.1 f.2 r 1 ad _ ((hse.below hnx).below (below_regrown wr d os))
                rwa [hcq] at this
              clear hA hC hcq s0 s1 s2 s3
              by_cases hq0 : 0 ≤ cq
              · go_wp2_with fail
                refine wp_region_quiet_below (by kernel_rfl) (by kernel_rfl) ?_
                repeat (first | go_big_quiet_step (first | (go_at_call 30; with_reducible exact Calls.regrown_of (HA1.out _ _)) | (go_at_call 24; with_reducible exact Calls.regrown_of (HA2.out _ _))))
                refine wpQuiet_nil ?_
                intro _ hw'
                obtain ⟨⟨dq, osq⟩, hw''⟩ := hw'
                subst hw''
                have J := below_regrown wr dq osq
                generalize grow (redrawn wr dq) osq = v5 at J ⊢
                go_wp2_with fail
                go_roundw
                case rel =>
                  refine ⟨k + 1, true, by omega, by simp, by first | (simp; done) | simp [hq0], fun _ j hj => ?_, (fun h => by cases h), bw_trans hnx J⟩
                  rcases Nat.lt_or_ge j k with hjk | hjk
                  · exact HB.out j hjk
                  · obtain rfl : j = k := by omega
                    rw [HH.out]; first | (simp; done) | simp [hq0]
                case measure => simp [intOf]; omega
              · go_wp2_with fail
                refine wp_region_quiet_below (by kernel_rfl) (by kernel_rfl) ?_
                repeat (first | go_big_quiet_step (first | (go_at_call 30; with_reducible exact Calls.regrown_of (HA1.out _ _)) | (go_at_call 24; with_reducible exact Calls.regrown_of (HA2.out _ _))))
                refine wpQuiet_nil ?_
                intro _ hw'
                obtain ⟨⟨dq, osq⟩, hw''⟩ := hw'
                subst hw''
                have J := below_regrown wr dq osq
                generalize grow (redrawn wr dq) osq = v5 at J ⊢
                go_wp2_with fail
                go_roundw
                case rel => exact ⟨k + 1, false, by omega, by simp, by first | (simp; done) | simp [hq0], (fun h => by cases h), fun _ => ⟨k, hlt, by rw [HH.out]; first | (simp; done) | simp [hq0]⟩, bw_trans hnx J⟩
                case measure => simp [intOf]; omega
            case neg =>
              obtain rfl : NE = k := by omega
              have e1 : Hid (ok = true) := by change _ = _; rw [HK.out]; exact HAl.out.2 HB.out
              clear HC HB
              go_wp2_with fail
              go_ret
              exact ⟨by rw [e1.out]; first | rfl | simp, KW⟩
end Go.Proofs.YtmdjhoknlplecaaGreatDoor
namespace Go.Proofs.YtmdjhoknlplecaaGreatDoor
open Go.ChangeShapes Go.WideShapes Go.ChangeAt Go.RowKit

theorem own : ownKnob Tryz.prog.godebug = none := by kernel_rfl
theorem laidOut : laidOutB Tryz.prog = true := by kernel_rfl
theorem gE : Tryz.prog.globalNamed "loop.example/mortiser/impl.errNoFrac" = some 0 := by kernel_rfl
theorem gEType : (Tryz.prog.globals[0]?).map (·.type) = some 93 := by kernel_rfl
theorem cellsES : Tryz.prog.cellsOf 194 = 1 := by kernel_rfl
theorem cellsStr : Tryz.prog.cellsOf 9 = 1 := by kernel_rfl
theorem star : "*" ++ "errors.errorString" = "*errors.errorString" := by decide
theorem rowES (u : TypeId) (h : Tryz.prog.typeName? 3 u = some "*errors.errorString") : u = 168 :=
  typeName_ptr_named (nm := "errors.errorString") (by rw [star]; kernel_rfl) (by kernel_rfl) (by decide) u (by rw [star]; exact h)

/-- What the list gives: the variable holds a pointer to an error of errors.New's make. -/
theorem sent_of_met {W : World} (h : laidMet Tryz.prog [("loop.example/mortiser/impl.errNoFrac", Rows.laid_loop_example_mortiser_impl_errNoFrac)] W) :
    ∃ a, W.var? Tryz.prog "loop.example/mortiser/impl.errNoFrac" = some #[.iface 168 (.pointer (some a))] ∧ Sent a W := by
  obtain ⟨a, s, hv, _, _, _⟩ := laid_sentinel h gE gEType Tryz.underlying93 rowES Tryz.underlying168 Tryz.underlying194 rfl rfl Tryz.underlying9 cellsES cellsStr
  exact ⟨a, hv, by simpa [Sent] using World.var?_cell gE hv 0⟩
theorem sent_of_laid {W : World} (h : laidMetH Tryz.prog [("loop.example/mortiser/impl.errNoFrac", Rows.laid_loop_example_mortiser_impl_errNoFrac)] W) :
    ∃ a, W.var? Tryz.prog "loop.example/mortiser/impl.errNoFrac" = some #[.iface 168 (.pointer (some a))] ∧ Sent a W := by
  rw [MakeChecks.laidMetH_plain _ _ _ (by kernel_rfl)] at h
  exact sent_of_met h

/-- The variable read again as a token. -/
theorem vars_again {H : Type} (enc : TypeId × Value → H) {X : World} {a : Addr} (hv : X.var? Tryz.prog "loop.example/mortiser/impl.errNoFrac" = some #[.iface 168 (.pointer (some a))]) (sp : Nat → Bool) :
    DataW.TrodVars enc Tryz.prog X sp ["loop.example/mortiser/impl.errNoFrac"] [tok enc (.iface 168 (.pointer (some a)))] [.cell 0 0] :=
  vars_read1 enc gE gEType Tryz.underlying93 hv trivial sp

/-- The door's own heap meets the condition. -/
theorem door_met (os : Os) (args : Array Value) : laidMetH Tryz.prog [("loop.example/mortiser/impl.errNoFrac", Rows.laid_loop_example_mortiser_impl_errNoFrac)] ((World.doorLaid Tryz.prog 28 os).forCall (fun _ _ => 0) ⟨#[], args, []⟩).memory :=
  laidMetH_of_parts3 (fuel := 8) (laidMet_of_run' 8 (by kernel_rfl) (by kernel_rfl)) (by kernel_rfl) (by kernel_rfl)
end Go.Proofs.YtmdjhoknlplecaaGreatDoor
namespace Go.Proofs.YtmdjhoknlplecaaGreatDoor
open Go.ChangeShapes Go.WideShapes Go.ChangeAt Go.RowKit Go.Joins
open Go.ChangeMaps (open_string shut_string)

set_option maxRecDepth 100000 in
theorem fnMayApart_lifted (os : Os) (started : os.Started) (H : Type) (enc : TypeId × Value → H) :
    ReturnsInHanded {} Tryz.checked os 8 .any (fun w args => (Rows.fnMayApartSpec.pre enc Tryz.prog Tryz.f8 [] false w args ∧ laidMetH Tryz.prog Rows.fnMayApartRow.laid w) ∧ sizedMet enc Tryz.prog Tryz.f8 (OpenSpec.ofChange Rows.fnMayApartSpec) false w args)
      (Rows.fnMayApartSpec.post enc Tryz.prog Tryz.f8 false true false false) := by
  refine returnsInHanded_of_change_and (C := Tryz.checked) (X := fun w _ => laidMetH Tryz.prog Rows.fnMayApartRow.laid w) (fun _ _ _ hh h => h.of_heap hh) own started (by kernel_rfl) Tryz.func8
    (ChangeSpec.witness_shaped (enc := enc) (C := Tryz.checked) (os := os) (X := fun w _ => laidMetH Tryz.prog Rows.fnMayApartRow.laid w) false (World.doorLaid Tryz.prog 28 os) #[.slice none 0 0] 8 rfl (World.shaped_of_RefB (by kernel_rfl) (by kernel_rfl)) (by kernel_rfl) (by kernel_rfl) (by kernel_rfl) (door_met os _)) ?_
  intro W base args ds gs before hval0 hW _ _ hL _
  have hval : ∀ (j : Nat) t v, Tryz.f8.params[j]? = some t → args[j]? = some v → Value.okWide Tryz.prog W .any base t v := hval0
  have hW' := hW
  obtain ⟨p, q, hA0, hV, rfl, hfz, hnd⟩ := hW
  have hA : DataW.TrodAll enc Tryz.prog W 0 (fun _ => true) true Tryz.f8.params.toList args.toList ds p := hA0
  rw [Tryz.params8] at hA hval
  obtain ⟨v0, vs0, d0, ds0, p0, q0, hargs, rfl, rfl, h0, r0⟩ := trodAll_cons hA
  obtain ⟨rfl, rfl, rfl⟩ := trodAll_nil r0
  obtain rfl : args = #[v0] := by cases args; simp_all
  obtain ⟨a, hvar, hs⟩ := sent_of_laid hL
  obtain ⟨rfl, rfl⟩ := hV.unique (vars_again enc hvar _)
  have k0 := h0
  have lt0 : ∀ x ∈ p0, x.block < W.heap.size := by obtain ⟨m, hm⟩ := k0; exact DataW.trod_lt m _ _ _ hm
  obtain ⟨a0, len0, cap0, rfl⟩ := okWide_slice Tryz.underlying41 (hval 0 41 v0 rfl rfl)
  obtain ⟨z0, w0⟩ : ∃ zs, IsRow .u8 W a0 len0 cap0 zs := by
    obtain ⟨fuel, hf⟩ := h0
    rcases open_ints Tryz.underlying41 Tryz.underlying5 (by kernel_rfl) hf with ⟨hcs, _⟩ | ⟨x, l, c, zs, hcs, _, hl, hm, hz, _, hcell, hwz⟩
    · simp [Value.cells] at hcs
      obtain ⟨rfl, rfl, rfl⟩ := hcs
      exact ⟨[], .inl ⟨rfl, rfl, rfl, rfl⟩⟩
    · simp [Value.cells] at hcs
      obtain ⟨rfl, rfl, rfl⟩ := hcs
      exact ⟨zs, .inr ⟨_, rfl, hl, hm, by simpa using hz, hcell, hwz⟩⟩
  clear hA0 hval0
  refine (mayApart_walk W a0 len0 cap0 z0 w0 a hs).mono fun e W' ⟨he, bel⟩ => ?_
  subst he
  exact ⟨_, rfl, _, _, _, [], _, [.cell 0 0], hW', trodAll_mk1 (shut_bool Tryz.underlying4 _), (trodAll_cons_mk (Below.trod laidOut (by kernel_rfl) (of_decide_eq_true (by kernel_rfl)) k0 bel lt0) trodAll_mk0), vars_again enc (var?_below bel gE hs.lt hvar) _, bel.frame _, fun h => by cases h⟩

theorem fnMayApart_said : Rows.FnMayApartSaid :=
  OpenClaim.holds_of_wide 8 Tryz.f8 rfl rfl rfl rfl rfl rfl rfl ⟨rfl, rfl, rfl, rfl, rfl⟩ rfl rfl rfl rfl rfl (by kernel_rfl) Tryz.func8 (by kernel_rfl)
    (of_decide_eq_true (by kernel_rfl)) (by unfold Func.isWrapper; first | (rw [if_pos (by decide +kernel)]; kernel_rfl) | (rw [if_neg (by decide +kernel)]; exact ⟨rfl, rfl⟩))
    (fun os started H enc _ => fnMayApart_lifted os started H enc)

theorem fnMayApart_plain (f : FuncId) (fn : Func) (hf : Tryz.pinned.checked.prog.funcNamed "loop.example/mortiser/laws.FnMayApart" = some f) (hfn : Tryz.pinned.checked.prog.funcs[f]? = some fn) :
    true = Tryz.pinned.checked.prog.looks [] ∧ ∀ (j : Nat) t, fn.params[j]? = some t → Tryz.pinned.checked.prog.wantsStandIn t = false := by
  obtain rfl : f = 8 := Option.some.inj ((show Tryz.prog.funcNamed "loop.example/mortiser/laws.FnMayApart" = some 8 by kernel_rfl).symm.trans hf) |>.symm
  obtain rfl : fn = Tryz.f8 := (Option.some.inj (Tryz.func8.symm.trans hfn)).symm
  refine ⟨by kernel_rfl, fun j t ht => ?_⟩
  rw [Tryz.params8] at ht
  have hm := Array.mem_of_getElem? ht
  simp only [List.mem_toArray, List.mem_cons, List.not_mem_nil, or_false] at hm
  subst hm
  exact (show Tryz.prog.wantsStandIn 41 = false by kernel_rfl)

/-- THE STATEMENT. -/
theorem fnMayApart_card : Rows.FnMayApartCardSaid :=
  Claim7.holds_tied_plain_at .later [] _ _ _ _ fnMayApart_said (fun _ h => by cases h) (by kernel_rfl) (fun _ h => by cases h) fnMayApart_row_tie rfl ⟨rfl, rfl⟩ (by kernel_rfl) rfl fnMayApart_plain (by kernel_rfl)
end Go.Proofs.YtmdjhoknlplecaaGreatDoor
