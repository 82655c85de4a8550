/-
  OUR OWN TEXT. The law FnExactPlateText, for every input: the call returns true, and each argument reads as it did. Texts of ours, joined, so that the claim keeps to its number of files. Conditions: none but the row's own.
-/
import Derived.Test.YtfnhbdanfnpdeaaDoorBoard
import Derived.Test.YtfnhbdanfnpdeaaDoorBoxes
import Derived.Test.YtfnhbdanfnpdeaaDoorSOk
import Derived.Test.YtfnhbdanfnpdeaaDoorLoopX
import Derived.Test.YtfnhbdanfnpdeaaDoorPass
import Derived.Test.YtfnhbdanfnpdeaaDoorPlateI
import Derived.Test.YtfnhbdanfnpdeaaDoorBack
import Derived.Test.YtfnhbdanfnpdeaaDoorLExLoopText
import Derived.Shelf.Strings.MapGrows
import Derived.Test.YtfnhbdanfnpdeaaDoorToPlate2
import Derived.Test.YtfnhbdanfnpdeaaDoorOpenPlate
import Derived.Deep.RegionHeld3
import Derived.Test.YtfnhbdanfnpdeaaDoorItoa
import Derived.Test.YtfnhbdanfnpdeaaDoorCards
import Derived.Test.YtfnhbdanfnpdeaaDoorTie
import Derived.ProofKit
import Derived.OpenShut
import Derived.ShutString
import Derived.ChangeOld
import Derived.Below
import Derived.LaidMore
import Derived.MakeChecks
import Derived.Stop.Joined
import Derived.Stop.LaidErr
import Derived.Lib.LaidTab
import Derived.Lib.SmallJoins
namespace Go.Proofs.YtfnhbdanfnpdeaaDoor
open Go.RowKit Go.Sort

set_option maxRecDepth 100000 in
set_option maxHeartbeats 4000000 in
theorem boardIn_any (b : Nat) (o : RingT) (hs : List RingT) (p : P2) (w : World) (hR : RingL w.heap.size w (some ⟨b, 0, none⟩) (o :: hs)) (hok : ((o :: hs).all fun x => okV x.pts) = true) (hp : ptB p.1 p.2 = true) :
    Calls Tryd.prog 47 #[.pointer (some ⟨b, 0, none⟩), .agg #[.int .i64 p.1, .int .i64 p.2]] w fun e W' => e = .returned (.int .i64 (plI o.pts (hs.map RingT.pts) p)) ∧ Below w.heap.size w W' := by
  obtain ⟨b0, q0, t0, e0, ob, ol, oP, hR⟩ := hR
  cases e0
  rw [List.all_cons, Bool.and_eq_true] at hok
  have B0 : Below w.heap.size w (w.alloc (.cells #[.int .i64 p.1, .int .i64 p.2] 46)) := (by repeat (first | exact bw_refl _ | assumption | apply bw_drewN | apply bw_drew | apply bw_alloc | refine bw_set ?_ (by simp) _))
  obtain ⟨W, hW, BW, T⟩ : ∃ W, W = w.alloc (.cells #[.int .i64 p.1, .int .i64 p.2] 46) ∧ Below w.heap.size w W ∧ W.heap[w.heap.size]? = some (.cells #[.int .i64 p.1, .int .i64 p.2] 46) := ⟨_, rfl, (by repeat (first | exact bw_refl _ | assumption | apply bw_drewN | apply bw_drew | apply bw_alloc | refine bw_set ?_ (by simp) _)), heap_new _ _⟩
  have hpl : Hid (plI o.pts (hs.map RingT.pts) p = hs.foldl (fun s x => min s (-(inI x.pts p))) (inI o.pts p)) := by change _ = _; unfold plI; rw [List.foldl_map]
  have hall : Hid (∀ x ∈ hs, okV x.pts = true) := List.all_eq_true.1 hok.2
  have HW : Hid (∀ d os, Calls Tryd.prog 52 #[.slice o.a o.len o.cap, .agg #[.int .i64 p.1, .int .i64 p.2]] (grow (redrawn W d) os) fun e W' => e = .returned (.int .i64 (inI o.pts p)) ∧ Below (grow (redrawn W d) os).heap.size (grow (redrawn W d) os) W') := fun d os =>
    where_any o.a o.len o.cap o.pts p ol hok.1 hp _ ((oP.below (bw_trans BW (below_regrown W d os))).grow (bw_trans BW (below_regrown W d os)).size)
  obtain ⟨o0, o1, _, _⟩ := lies2 (ob.below BW)
  have o0' := cell_regrown o0
  obtain ⟨t0', t1'⟩ := reg_2 T
  have h3 := inI_3 o.pts p
  have hR1 := (hR.below BW (Nat.le_refl _)).grow BW.size
  have ob1 := ob.below BW
  clear o0 o1 hok
  generalize inI o.pts p = u0 at *
  go_enter Tryd.func47, Tryd.ntmps47
  go_upto_region 1 with fail
  rw [← hW]
  clear hW
  refine wp_region_quiet_below (by kernel_rfl) (by kernel_rfl) ?_
  repeat (first | go_big_quiet_step (first | (go_at_call 52; with_reducible exact Calls.regrown_of (HW.out _ _))))
  refine wpQuiet_nil ?_
  intro _ hw'
  obtain ⟨⟨dq, osq⟩, hw''⟩ := hw'
  subst hw''
  have J := below_regrown W dq osq
  generalize grow (redrawn W dq) osq = v at J ⊢
  obtain ⟨o0, o1, _, _⟩ := lies2 (ob1.below J)
  have K := bw_trans BW J
  replace T := keep J T
  have hR2 := (hR1.below J (Nat.le_refl _)).grow J.size
  clear HW t0' t1' o0' hR1 hR
  go_wp2_with fail
  go_loopw [5, 6] (fun s q wr => ∃ (u : Int) (q' : Option Addr) (rest : List RingT), s = .int .i64 u ∧ q = .pointer q' ∧ (-1 ≤ u ∧ u ≤ 1) ∧ RingL wr.heap.size wr q' rest ∧ (∀ x ∈ rest, okV x.pts = true) ∧ hs.foldl (fun s x => min s (-(inI x.pts p))) u0 = rest.foldl (fun s x => min s (-(inI x.pts p))) u ∧ Below v.heap.size v wr) (fun _ q wr => ringsLeft wr q)
  case atStart => exact ⟨u0, q0, hs, rfl, rfl, by omega, hR2, hall.out, rfl, bw_refl _⟩
  case round =>
    obtain ⟨u, q', rest, rfl, rfl, hu, hL, hak, he, hnx⟩ := hrel
    cases rest with
    | nil =>
      obtain rfl : q' = none := hL
      have e1 : Hid (plI o.pts (hs.map RingT.pts) p = u) := by change _ = _; rw [hpl.out, he]; rfl
      clear he
      go_wp2_with fail
      go_ret
      exact ⟨ret_int e1.out.symm, bw_trans K hnx⟩
    | cons y ys =>
      have hL' := hL
      obtain ⟨b1, q1, t1, rfl, hb, hlen, hP, hr⟩ := hL
      obtain ⟨d0, d1, _, _⟩ := lies2 hb
      have d0' := cell_regrown d0
      have d1' := cell_regrown d1
      obtain ⟨t0', t1'⟩ := reg_2 (keep hnx T)
      have y3 := inI_3 y.pts p
      have HW : Hid (∀ d os, Calls Tryd.prog 52 #[.slice y.a y.len y.cap, .agg #[.int .i64 p.1, .int .i64 p.2]] (grow (redrawn wr d) os) fun e W' => e = .returned (.int .i64 (inI y.pts p)) ∧ Below (grow (redrawn wr d) os).heap.size (grow (redrawn wr d) os) W') := fun d os =>
        where_any y.a y.len y.cap y.pts p hlen (hak y (by simp)) hp _ ((hP.below (below_regrown wr d os)).grow (below_regrown wr d os).size)
      have he1 : Hid (hs.foldl (fun s x => min s (-(inI x.pts p))) u0 = ys.foldl (fun s x => min s (-(inI x.pts p))) (min u (-(inI y.pts p)))) := he
      clear he
      generalize inI y.pts p = u1 at *
      have nu : IntKind.i64.wrap (-u1) = -u1 := wrap_small (by omega) (by omega)
      clear d0 d1
      by_cases hm : -u1 < u
      · have hmin : min u (-u1) = -u1 := by omega
        go_wp2_with fail
        refine wp_region_quiet_below (by kernel_rfl) (by kernel_rfl) ?_
        repeat (first | go_big_quiet_step (first | (go_at_call 52; with_reducible exact Calls.regrown_of (HW.out _ _))))
        refine wpQuiet_nil ?_
        intro _ hw'
        obtain ⟨⟨dq, osq⟩, hw''⟩ := hw'
        subst hw''
        have J := below_regrown wr dq osq
        generalize grow (redrawn wr dq) osq = v2 at J ⊢
        obtain ⟨d0, d1, _, _⟩ := lies2 (hb.below J)
        go_wp2_with fail
        go_roundw
        case rel => exact ⟨-u1, q1, ys, rfl, rfl, by omega, (hr.below J (Nat.le_refl _)).grow J.size, fun x hx => hak x (by simp [hx]), by rw [he1.out, hmin], bw_trans hnx J⟩
        case measure => rw [ringsLeft_eq (hr.below J (Nat.le_refl _)), ringsLeft_eq hL']; simp
      · have hmin : min u (-u1) = u := by omega
        go_wp2_with fail
        refine wp_region_quiet_below (by kernel_rfl) (by kernel_rfl) ?_
        repeat (first | go_big_quiet_step (first | (go_at_call 52; with_reducible exact Calls.regrown_of (HW.out _ _))))
        refine wpQuiet_nil ?_
        intro _ hw'
        obtain ⟨⟨dq, osq⟩, hw''⟩ := hw'
        subst hw''
        have J := below_regrown wr dq osq
        generalize grow (redrawn wr dq) osq = v2 at J ⊢
        obtain ⟨d0, d1, _, _⟩ := lies2 (hb.below J)
        go_wp2_with fail
        go_roundw
        case rel => exact ⟨u, q1, ys, rfl, rfl, by omega, (hr.below J (Nat.le_refl _)).grow J.size, fun x hx => hak x (by simp [hx]), by rw [he1.out, hmin], bw_trans hnx J⟩
        case measure => rw [ringsLeft_eq (hr.below J (Nat.le_refl _)), ringsLeft_eq hL']; simp
set_option maxRecDepth 100000 in
set_option maxHeartbeats 1000000 in
theorem plateIn_any (a ah : Option Addr) (la ca nh ch : Nat) (o : List P2) (hs : List (List P2)) (p : P2) (w : World) (h : Plt w a la ah nh o hs) :
    Calls Tryd.prog 22 #[.agg #[.slice a la ca, .slice ah nh ch], .agg #[.int .i64 p.1, .int .i64 p.2]] w fun e W' => e = .returned (.int .i64 (plInV o hs p)) ∧ Below w.heap.size w W' := by
  obtain ⟨W, hW, BW, TP, T⟩ := boxes2 w (.cells #[.slice a la ca, .slice ah nh ch] 40) (.cells #[.int .i64 p.1, .int .i64 p.2] 46)
  have hh := h.below BW
  obtain ⟨t0, t1⟩ := blk_2 TP
  have zP := blk_lt TP
  cases hv : plV o hs
  · have e1 : Hid (plInV o hs p = -1) := by change _ = _; unfold plInV; rw [hv]; rfl
    go_enter Tryd.func22, Tryd.ntmps22
    go_upto_region 1 with fail
    rw [← hW]
    clear hW
    go_wp2_with fail
    refine (board_any a ah la ca nh ch o hs _ hh).mono ?_
    rw [hv]
    rintro e w1 ⟨q, rfl, J, _⟩
    go_wp2_with fail
    go_ret
    exact ⟨ret_int e1.out.symm, bw_trans BW J⟩
  cases hp : ptB p.1 p.2
  · have e1 : Hid (plInV o hs p = -1) := by change _ = _; unfold plInV; rw [hv, hp]; rfl
    go_enter Tryd.func22, Tryd.ntmps22
    go_upto_region 1 with fail
    rw [← hW]
    clear hW
    go_wp2_with fail
    refine (board_any a ah la ca nh ch o hs _ hh).mono ?_
    rw [hv]
    rintro e w1 ⟨q, rfl, J, _⟩
    replace T := keep J T
    clear t0 t1
    obtain ⟨t0, t1⟩ := blk_2 T
    go_wp2_with fail
    refine (pt_raw p _).mono ?_
    rw [hp]
    rintro e w2 ⟨rfl, J2⟩
    go_wp2_with fail
    go_ret
    exact ⟨ret_int e1.out.symm, bw_trans (bw_trans BW J) J2⟩
  · have e1 : Hid (plInV o hs p = plI o hs p) := by change _ = _; unfold plInV; rw [hv, hp]; rfl
    have L := (plV_iff o hs).1 hv
    go_enter Tryd.func22, Tryd.ntmps22
    go_upto_region 1 with fail
    rw [← hW]
    clear hW
    go_wp2_with fail
    refine (board_any a ah la ca nh ch o hs _ hh).mono ?_
    rintro e w1 ⟨q, rfl, J, hR⟩
    obtain ⟨b, xs, rfl, hR, hx⟩ := hR hv
    rw [hv]
    replace T := keep J T
    clear t0 t1
    obtain ⟨t0, t1⟩ := blk_2 T
    go_wp2_with fail
    refine (pt_raw p _).mono ?_
    rw [hp]
    rintro e w2 ⟨rfl, J2⟩
    replace T := keep J2 T
    clear t0 t1
    obtain ⟨t0, t1⟩ := blk_2 T
    have hall : ((⟨a, la, ca, o⟩ :: xs : List RingT).all fun x => okV x.pts) = true := by
      rw [List.all_eq_true]
      intro x hx'
      rcases List.mem_cons.1 hx' with e | e
      · subst e; exact L.out
      · exact L.ok _ (by rw [← hx]; exact List.mem_map.2 ⟨x, e, rfl⟩)
    go_wp2_with fail
    refine (boardIn_any b ⟨a, la, ca, o⟩ xs p w2 ((hR.below J2 (Nat.le_refl _)).grow J2.size) hall hp).mono ?_
    rw [hx]
    rintro e w3 ⟨rfl, J3⟩
    go_wp2_with fail
    go_ret
    exact ⟨ret_int e1.out.symm, bw_trans (bw_trans (bw_trans BW J) J2) J3⟩
end Go.Proofs.YtfnhbdanfnpdeaaDoor
namespace Go.Proofs.YtfnhbdanfnpdeaaDoor
open Go.RowKit Go.Sort

theorem okV_pt {pts : List P2} (h : okV pts = true) {i : Nat} (hi : i < pts.length) : ptB (ptAt pts i).1 (ptAt pts i).2 = true := (sgP_pt (((okV_iff pts).1 h).seg i hi)).1
theorem sCross_raw (a b c : P2) (ha : ptB a.1 a.2 = true) (hb : ptB b.1 b.2 = true) (hc : ptB c.1 c.2 = true) (w : World) :
    Calls Tryd.prog 75 #[.agg #[.int .i64 a.1, .int .i64 a.2], .agg #[.int .i64 b.1, .int .i64 b.2], .agg #[.int .i64 c.1, .int .i64 c.2]] w fun e w' => e = .returned (.int .i64 (crs a.1 a.2 b.1 b.2 c.1 c.2)) ∧ Below w.heap.size w w' := sCross_any _ _ _ _ _ _ w ha hb hc
theorem fan_bd {pts : List P2} (h : okV pts = true) (k : Nat) (hk : k < pts.length) : -(162 * k) ≤ fan pts k ∧ fan pts k ≤ 162 * k := by
  induction k with
  | zero => simp [fan]
  | succ k ih =>
    have i := ih (by omega)
    cases k with
    | zero => simp [fan]
    | succ k =>
      have e : fan pts (k + 1 + 1) = fan pts (k + 1) + triE pts (k + 1) := rfl
      have b := crs_bd (okV_pt h (i := 0) (by omega)) (okV_pt h (i := k + 1) (by omega)) (okV_pt h (i := k + 1 + 1) hk)
      have b' : -162 ≤ triE pts (k + 1) ∧ triE pts (k + 1) ≤ 162 := b
      rw [e]; omega
end Go.Proofs.YtfnhbdanfnpdeaaDoor
namespace Go.Proofs.YtfnhbdanfnpdeaaDoor
open Go.RowKit Go.Sort

theorem sPt_raw (p : P2) (w : World) : Calls Tryd.prog 25 #[.agg #[.int .i64 p.1, .int .i64 p.2]] w fun e w' => e = .returned (.bool (ptB p.1 p.2)) ∧ Below w.heap.size w w' := sPt_any _ _ w
theorem inI_on {pts : List P2} {p : P2} {i : Nat} (hi : i < pts.length) (h : onE pts p i = true) : inI pts p = 0 := by
  unfold inI; rw [if_pos]; rw [List.any_eq_true]; exact ⟨i, List.mem_range.2 hi, h⟩
theorem inI_off {pts : List P2} {p : P2} (h : ∀ i, i < pts.length → onE pts p i = false) : inI pts p = whereK pts p pts.length := by
  unfold inI; rw [if_neg]; rw [List.any_eq_true]; rintro ⟨i, hi, e⟩; rw [h i (List.mem_range.1 hi)] at e; cases e
theorem regrow_none {W W' : World} {g j : Nat} {x0 x1 x2 x3 : Value} (h : W.cell? ⟨g, j * 4, none⟩ = some x0 ∧ W.cell? ⟨g, j * 4 + 1, none⟩ = some x1 ∧ W.cell? ⟨g, j * 4 + 2, none⟩ = some x2 ∧ W.cell? ⟨g, j * 4 + 3, none⟩ = some x3) (J : Below W.heap.size W W') (hg : g < W.heap.size) :
    W'.cell? ⟨g, j * 4, none⟩ = some x0 ∧ W'.cell? ⟨g, j * 4 + 1, none⟩ = some x1 ∧ W'.cell? ⟨g, j * 4 + 2, none⟩ = some x2 ∧ W'.cell? ⟨g, j * 4 + 3, none⟩ = some x3 :=
  ⟨(J.cell (p := ⟨g, j * 4, none⟩) hg).trans h.1, (J.cell (p := ⟨g, j * 4 + 1, none⟩) hg).trans h.2.1, (J.cell (p := ⟨g, j * 4 + 2, none⟩) hg).trans h.2.2.1, (J.cell (p := ⟨g, j * 4 + 3, none⟩) hg).trans h.2.2.2⟩
set_option maxRecDepth 100000 in
set_option maxHeartbeats 8000000 in
theorem sInI_ok (b off len cap : Nat) (pts : List P2) (p : P2) (hok : okV pts = true) (hp : ptB p.1 p.2 = true) (hl : pts.length = len) (w : World) (hb : b < w.heap.size)
    (hc : ∀ j, j < len → w.cell? ⟨b, off + j * 2, none⟩ = some (.int .i64 (ptAt pts j).1) ∧ w.cell? ⟨b, off + j * 2 + 1, none⟩ = some (.int .i64 (ptAt pts j).2)) :
    Calls Tryd.prog 49 #[.slice (some ⟨b, off, none⟩) len cap, .agg #[.int .i64 p.1, .int .i64 p.2]] w fun e w' => e = .returned (.int .i64 (inI pts p)) ∧ Below w.heap.size w w' := by
  have h3 := ((okV_iff pts).1 hok).lo
  have h8 := ((okV_iff pts).1 hok).hi
  have hS : Hid (∀ i, i < len → sgP (ptAt pts i) (ptAt pts (nxt pts i)) = true) := fun i hi => ((okV_iff pts).1 hok).seg i (by omega)
  have hl8 : 3 ≤ len ∧ len ≤ 8 := by omega
  have hcall := sEdges_ok b off len cap pts (w.alloc (.cells #[.int .i64 p.1, .int .i64 p.2] 46)) hl (by omega) (by omega) (by simp; omega) (fun j hj => by
    have := hc j hj
    exact ⟨(((Below.refl _ w).alloc (Nat.le_refl _) _).cell (p := ⟨b, off + j * 2, none⟩) hb).trans this.1, (((Below.refl _ w).alloc (Nat.le_refl _) _).cell (p := ⟨b, off + j * 2 + 1, none⟩) hb).trans this.2⟩)
  have LP : Lies w.heap.size #[.int .i64 p.1, .int .i64 p.2] 46 (w.alloc (.cells #[.int .i64 p.1, .int .i64 p.2] 46)) := Lies.new w _ _
  have HL : Hid (pts.length = len) := hl
  clear hok h3 h8 hl hc
  go_enter Tryd.func49, Tryd.ntmps49
  go_wp2_with (go_at_call 53; refine hcall.mono ?_; rintro e w1 ⟨v, rfl, hown, J0⟩)
  have hR : ∃ g cap', v = .slice (some ⟨g, 0, none⟩) len cap' ∧ g < w1.heap.size ∧ SegRow w1 g len pts := by
    have hown' := hown
    rcases hown.2 with ⟨_, h0⟩ | ⟨g, cap', cur, rfl, hg1, hg2, _⟩
    · omega
    · exact ⟨g, cap', rfl, (Array.getElem?_eq_some_iff.1 hg2).1, SegRow.of_owns hown'⟩
  obtain ⟨g, cap', rfl, hg, hR⟩ := hR
  replace LP := LP.below J0
  have B1 : Below w.heap.size w w1 := bw_trans (by repeat (first | exact bw_refl _ | assumption | apply bw_drewN | apply bw_drew | apply bw_alloc | refine bw_set ?_ (by simp) _)) J0
  clear hown hcall J0
  go_wp2_with fail
  go_loopw [5, 7] (fun s i wr => ∃ k : Nat, k ≤ len ∧ i = .int .i64 k ∧ s = .int .i64 (whereK pts p k) ∧ (∀ j, j < k → onE pts p j = false) ∧ Below w1.heap.size w1 wr) (fun _ i _ => len - (intOf i).toNat)
  case atStart => exact ⟨0, by omega, rfl, rfl, fun j hj => by omega, bw_refl _⟩
  case round =>
    obtain ⟨k, hk, rfl, rfl, hoff, hnx⟩ := hrel
    by_cases hlt : k < len
    case neg =>
      obtain rfl : k = len := by omega
      have e1 : Hid (inI pts p = whereK pts p k) := by change _ = _; rw [inI_off (by rw [HL.out]; exact hoff), HL.out]
      go_wp2_with fail
      go_ret
      exact ⟨ret_int e1.out.symm, bw_trans B1 hnx⟩
    case pos =>
      have sk := hS.out k hlt
      obtain ⟨pa, pb⟩ := sgP_pt sk
      have i0 : (0 : Int) ≤ (k : Int) := Int.natCast_nonneg _
      have i1 : (k : Int) < (len : Int) := by omega
      have q1 : IntKind.i64.wrap ((k : Int) + 1) = (k : Int) + 1 := wrap_small (by omega) (by omega)
      have hRk := (hR.below hnx hg) k hlt
      obtain ⟨d0, d1, d2, d3⟩ := regrow4 hRk
      have LPk := LP.below hnx
      obtain ⟨u0, u1⟩ := reg_2 LPk
      have wpm := whereK_pm pts p k
      cases hon : onE pts p k
      case true =>
        have e1 : Hid (inI pts p = 0) := inI_on (by rw [HL.out]; exact hlt) hon
        have X1 : Hid (∀ w, Calls Tryd.prog 55 #[.agg #[.int .i64 (ptAt pts k).1, .int .i64 (ptAt pts k).2, .int .i64 (ptAt pts (nxt pts k)).1, .int .i64 (ptAt pts (nxt pts k)).2], .agg #[.int .i64 p.1, .int .i64 p.2]] w fun e w' => e = .returned (.bool true) ∧ Below w.heap.size w w') := fun w => by
          have := sHas_raw _ _ _ sk hp w; unfold onE at hon; rwa [hon] at this
        go_wp2_with fail
        refine wp_region_quiet_below (by kernel_rfl) (by kernel_rfl) ?_
        repeat (first | go_big_quiet_step (first | (go_at_call 55; with_reducible exact Calls.regrown_of (X1.out _))))
        refine wpQuiet_nil ?_
        intro _ hw'
        obtain ⟨⟨dq, osq⟩, hw''⟩ := hw'
        subst hw''
        have J := below_regrown wr dq osq
        generalize grow (redrawn wr dq) osq = w2 at J ⊢
        go_wp2_with fail
        go_ret
        exact ⟨ret_int e1.out.symm, bw_trans (bw_trans B1 hnx) J⟩
      case false =>
        have X1 : Hid (∀ w, Calls Tryd.prog 55 #[.agg #[.int .i64 (ptAt pts k).1, .int .i64 (ptAt pts k).2, .int .i64 (ptAt pts (nxt pts k)).1, .int .i64 (ptAt pts (nxt pts k)).2], .agg #[.int .i64 p.1, .int .i64 p.2]] w fun e w' => e = .returned (.bool false) ∧ Below w.heap.size w w') := fun w => by
          have := sHas_raw _ _ _ sk hp w; unfold onE at hon; rwa [hon] at this
        have step : ∀ (s : Int) (X : World), Below w1.heap.size w1 X → whereK pts p (k + 1) = s → ∃ k' : Nat, k' ≤ len ∧ Value.int .i64 ((k : Int) + 1) = .int .i64 k' ∧ Value.int .i64 s = .int .i64 (whereK pts p k') ∧ (∀ j, j < k' → onE pts p j = false) ∧ Below w1.heap.size w1 X :=
          fun s X hX hs => ⟨k + 1, by omega, by simp, by rw [hs], fun j hj => by rcases Nat.lt_or_ge j k with h | h; exact hoff j h; obtain rfl : j = k := (by omega); exact hon, hX⟩
        have hyes : passP (ptAt pts k) (ptAt pts (nxt pts k)) p = true → Hid (whereK pts p (k + 1) = - whereK pts p k) := fun h => by change _ = _; simp only [whereK]; unfold passE; rw [h]; rfl
        have hno : passP (ptAt pts k) (ptAt pts (nxt pts k)) p = false → Hid (whereK pts p (k + 1) = whereK pts p k) := fun h => by change _ = _; simp only [whereK]; unfold passE; rw [h]; rfl
        clear hon hoff
        generalize whereK pts p k = u at *
        generalize ptAt pts k = a at *
        generalize ptAt pts (nxt pts k) = b at *
        have nu : IntKind.i64.wrap (-u) = -u := wrap_small (by omega) (by omega)
        go_wp2_with fail
        refine wp_region_quiet_below (by kernel_rfl) (by kernel_rfl) ?_
        repeat (first | go_big_quiet_step (first | (go_at_call 55; with_reducible exact Calls.regrown_of (X1.out _))))
        refine wpQuiet_nil ?_
        intro _ hw'
        obtain ⟨⟨dq, osq⟩, hw''⟩ := hw'
        subst hw''
        have J := below_regrown wr dq osq
        generalize grow (redrawn wr dq) osq = w2 at J ⊢
        have hn2 := bw_trans hnx J
        have hR2 := regrow_none hRk J (by have := hnx.size; omega)
        obtain ⟨d0', d1', d2', d3'⟩ := hR2
        obtain ⟨p0, p1⟩ := blk_2 (LPk.below J)
        have zg : g < w2.heap.size := by have := hn2.size; omega
        have zp := (LPk.below J).lt
        clear J d0 d1 d2 d3 u0 u1 hRk LPk X1
        by_cases hgt : b.2 < a.2
        · have e1 : Hid (passP a b p = (decide (b.2 ≤ p.2) && decide (p.2 < a.2) && decide (0 < crs b.1 b.2 a.1 a.2 p.1 p.2))) := by
            change _ = _; unfold passP; rw [if_pos hgt]
          by_cases c1 : b.2 ≤ p.2
          · by_cases c2 : p.2 < a.2
            · by_cases c3 : 0 < crs b.1 b.2 a.1 a.2 p.1 p.2
              · have e2 := hyes (by rw [e1.out, decide_eq_true c1, decide_eq_true c2, decide_eq_true c3]; rfl)
                go_wp2_with (go_at_call 75; refine (sCross_raw _ _ _ pb pa hp _).mono ?_; rintro e w3 ⟨rfl, J⟩)
                go_roundw
                case rel => exact step _ _ (bw_trans (by repeat (first | exact hn2 | apply bw_alloc | refine bw_set ?_ (by simp; omega) _)) J) e2.out
                case measure => simp [intOf]; omega
              · have e2 := hno (by rw [e1.out, decide_eq_true c1, decide_eq_true c2, decide_eq_false c3]; rfl)
                go_wp2_with (go_at_call 75; refine (sCross_raw _ _ _ pb pa hp _).mono ?_; rintro e w3 ⟨rfl, J⟩)
                go_roundw
                case rel => exact step _ _ (bw_trans (by repeat (first | exact hn2 | apply bw_alloc | refine bw_set ?_ (by simp; omega) _)) J) e2.out
                case measure => simp [intOf]; omega
            · have e2 := hno (by rw [e1.out, decide_eq_true c1, decide_eq_false c2]; rfl)
              go_wp2_with fail
              go_roundw
              case rel => exact step _ _ (by repeat (first | exact hn2 | apply bw_alloc | refine bw_set ?_ (by simp; omega) _)) e2.out
              case measure => simp [intOf]; omega
          · have e2 := hno (by rw [e1.out, decide_eq_false c1]; rfl)
            go_wp2_with fail
            go_roundw
            case rel => exact step _ _ (by repeat (first | exact hn2 | apply bw_alloc | refine bw_set ?_ (by simp; omega) _)) e2.out
            case measure => simp [intOf]; omega
        · have e1 : Hid (passP a b p = (decide (a.2 ≤ p.2) && decide (p.2 < b.2) && decide (0 < crs a.1 a.2 b.1 b.2 p.1 p.2))) := by
            change _ = _; unfold passP; rw [if_neg hgt]
          by_cases c1 : a.2 ≤ p.2
          · by_cases c2 : p.2 < b.2
            · by_cases c3 : 0 < crs a.1 a.2 b.1 b.2 p.1 p.2
              · have e2 := hyes (by rw [e1.out, decide_eq_true c1, decide_eq_true c2, decide_eq_true c3]; rfl)
                go_wp2_with (go_at_call 75; refine (sCross_raw _ _ _ pa pb hp _).mono ?_; rintro e w3 ⟨rfl, J⟩)
                go_roundw
                case rel => exact step _ _ (bw_trans (by repeat (first | exact hn2 | apply bw_alloc | refine bw_set ?_ (by simp; omega) _)) J) e2.out
                case measure => simp [intOf]; omega
              · have e2 := hno (by rw [e1.out, decide_eq_true c1, decide_eq_true c2, decide_eq_false c3]; rfl)
                go_wp2_with (go_at_call 75; refine (sCross_raw _ _ _ pa pb hp _).mono ?_; rintro e w3 ⟨rfl, J⟩)
                go_roundw
                case rel => exact step _ _ (bw_trans (by repeat (first | exact hn2 | apply bw_alloc | refine bw_set ?_ (by simp; omega) _)) J) e2.out
                case measure => simp [intOf]; omega
            · have e2 := hno (by rw [e1.out, decide_eq_true c1, decide_eq_false c2]; rfl)
              go_wp2_with fail
              go_roundw
              case rel => exact step _ _ (by repeat (first | exact hn2 | apply bw_alloc | refine bw_set ?_ (by simp; omega) _)) e2.out
              case measure => simp [intOf]; omega
          · have e2 := hno (by rw [e1.out, decide_eq_false c1]; rfl)
            go_wp2_with fail
            go_roundw
            case rel => exact step _ _ (by repeat (first | exact hn2 | apply bw_alloc | refine bw_set ?_ (by simp; omega) _)) e2.out
            case measure => simp [intOf]; omega
end Go.Proofs.YtfnhbdanfnpdeaaDoor
namespace Go.Proofs.YtfnhbdanfnpdeaaDoor
open Go.RowKit Go.Sort

set_option maxRecDepth 100000 in
set_option maxHeartbeats 8000000 in
theorem sApart_ok (b1 off1 len1 cap1 b2 off2 len2 cap2 : Nat) (l1 l2 : List P2) (ok1 : okV l1 = true) (ok2 : okV l2 = true) (hl1 : l1.length = len1) (hl2 : l2.length = len2) (w : World) (hb1 : b1 < w.heap.size) (hb2 : b2 < w.heap.size)
    (hc1 : ∀ j, j < len1 → w.cell? ⟨b1, off1 + j * 2, none⟩ = some (.int .i64 (ptAt l1 j).1) ∧ w.cell? ⟨b1, off1 + j * 2 + 1, none⟩ = some (.int .i64 (ptAt l1 j).2))
    (hc2 : ∀ j, j < len2 → w.cell? ⟨b2, off2 + j * 2, none⟩ = some (.int .i64 (ptAt l2 j).1) ∧ w.cell? ⟨b2, off2 + j * 2 + 1, none⟩ = some (.int .i64 (ptAt l2 j).2)) :
    Calls Tryd.prog 50 #[.slice (some ⟨b1, off1, none⟩) len1 cap1, .slice (some ⟨b2, off2, none⟩) len2 cap2] w fun e w' => e = .returned (.bool (apL l1 l2)) ∧ Below w.heap.size w w' := by
  have h31 := okV_pos ok1
  have h32 := okV_pos ok2
  have S1 : Hid (∀ i, i < len1 → sgP (ptAt l1 i) (ptAt l1 (nxt l1 i)) = true) := fun i hi => ((okV_iff l1).1 ok1).seg i (by omega)
  have S2 : Hid (∀ i, i < len2 → sgP (ptAt l2 i) (ptAt l2 (nxt l2 i)) = true) := fun i hi => ((okV_iff l2).1 ok2).seg i (by omega)
  have L1 : Hid (l1.length = len1) := hl1
  have L2 : Hid (l2.length = len2) := hl2
  have b1l : 3 ≤ len1 ∧ len1 ≤ 8 := by omega
  have b2l : 3 ≤ len2 ∧ len2 ≤ 8 := by omega
  clear ok1 ok2 h31 h32 hl1 hl2
  go_enter Tryd.func50, Tryd.ntmps50
  go_wp2_with fail
  refine (sEdges_ok b1 off1 len1 cap1 l1 w L1 (by omega) (by omega) hb1 hc1).mono ?_
  rintro e w1 ⟨v1, rfl, hown1, J1⟩
  have hR : ∃ g cap', v1 = .slice (some ⟨g, 0, none⟩) len1 cap' ∧ g < w1.heap.size ∧ SegRow w1 g len1 l1 := by
    have hown' := hown1
    rcases hown1.2 with ⟨_, h0⟩ | ⟨g, cap', cur, rfl, hg1, hg2, _⟩
    · omega
    · exact ⟨g, cap', rfl, (Array.getElem?_eq_some_iff.1 hg2).1, SegRow.of_owns hown'⟩
  obtain ⟨g1, c1, rfl, hg1, R1⟩ := hR
  clear hown1
  go_wp2_with fail
  refine (sEdges_ok b2 off2 len2 cap2 l2 w1 L2 (by omega) (by omega) (by have := J1.size; omega) (fun j hj => ⟨(J1.cell (p := ⟨b2, off2 + j * 2, none⟩) hb2).trans (hc2 j hj).1, (J1.cell (p := ⟨b2, off2 + j * 2 + 1, none⟩) hb2).trans (hc2 j hj).2⟩)).mono ?_
  rintro e w2 ⟨v2, rfl, hown2, J2⟩
  have hR : ∃ g cap', v2 = .slice (some ⟨g, 0, none⟩) len2 cap' ∧ g < w2.heap.size ∧ SegRow w2 g len2 l2 := by
    have hown' := hown2
    rcases hown2.2 with ⟨_, h0⟩ | ⟨g, cap', cur, rfl, hg1, hg2, _⟩
    · omega
    · exact ⟨g, cap', rfl, (Array.getElem?_eq_some_iff.1 hg2).1, SegRow.of_owns hown'⟩
  obtain ⟨g2, c2, rfl, hg2, R2⟩ := hR
  replace R1 := R1.below J2 hg1
  have hg1' : g1 < w2.heap.size := by have := J2.size; omega
  have K2 := bw_trans J1 J2
  clear hown2 J1 J2 hc1 hc2
  go_wp2_with fail
  go_loopw [7] (fun i wr => ∃ k : Nat, k ≤ len1 ∧ i = .int .i64 k ∧ (∀ j, j < k → ∀ q, q < len2 → meetP (ptAt l1 j) (ptAt l1 (nxt l1 j)) (ptAt l2 q) (ptAt l2 (nxt l2 q)) = false) ∧ Below w2.heap.size w2 wr) (fun i _ => len1 - (intOf i).toNat)
  case atStart => exact ⟨0, Nat.zero_le _, rfl, fun j hj => by omega, bw_refl _⟩
  case round =>
    obtain ⟨i, hi, rfl, hall, hnx⟩ := hrel
    by_cases hlt : i < len1
    case neg =>
      obtain rfl : i = len1 := by omega
      have e1 : Hid (apL l1 l2 = true) := (apL_iff l1 l2).2 (fun j hj q hq => hall j (by rw [L1.out] at hj; exact hj) q (by rw [L2.out] at hq; exact hq))
      clear hall
      go_wp2_with fail
      go_ret
      exact ⟨ret_bool e1.out.symm, bw_trans K2 hnx⟩
    case pos =>
      have si := S1.out i hlt
      go_wp2_with fail
      go_loopw [8] (fun k wr => ∃ k' : Nat, k' ≤ len2 ∧ k = .int .i64 k' ∧ (∀ q, q < k' → meetP (ptAt l1 i) (ptAt l1 (nxt l1 i)) (ptAt l2 q) (ptAt l2 (nxt l2 q)) = false) ∧ Below w2.heap.size w2 wr) (fun k _ => len2 - (intOf k).toNat)
      case atStart => exact ⟨0, Nat.zero_le _, rfl, fun j hj => by omega, hnx⟩
      case round =>
        obtain ⟨k, hk, rfl, hrow, hny⟩ := hrel
        by_cases hlt2 : k < len2
        case neg =>
          obtain rfl : k = len2 := by omega
          go_wp2_with fail
          go_roundw
          case rel => exact ⟨i + 1, by omega, by simp, fun j hj q hq => by rcases Nat.lt_or_ge j i with h | h; exact hall j h q hq; obtain rfl : j = i := (by omega); exact hrow q hq, hny⟩
          case measure => simp [intOf]; omega
        case pos =>
          have sk := S2.out k hlt2
          have i0 : (0 : Int) ≤ (i : Int) := Int.natCast_nonneg _
          have i1 : (i : Int) < (len1 : Int) := by omega
          have j0 : (0 : Int) ≤ (k : Int) := Int.natCast_nonneg _
          have j1 : (k : Int) < (len2 : Int) := by omega
          obtain ⟨d0, d1, d2, d3⟩ := regrow4 ((R1.below hny hg1') i hlt)
          obtain ⟨f0, f1, f2, f3⟩ := regrow4 ((R2.below hny hg2) k hlt2)
          cases hme : meetP (ptAt l1 i) (ptAt l1 (nxt l1 i)) (ptAt l2 k) (ptAt l2 (nxt l2 k))
          · have X1 : Hid (∀ w, Calls Tryd.prog 56 #[.agg #[.int .i64 (ptAt l1 i).1, .int .i64 (ptAt l1 i).2, .int .i64 (ptAt l1 (nxt l1 i)).1, .int .i64 (ptAt l1 (nxt l1 i)).2], .agg #[.int .i64 (ptAt l2 k).1, .int .i64 (ptAt l2 k).2, .int .i64 (ptAt l2 (nxt l2 k)).1, .int .i64 (ptAt l2 (nxt l2 k)).2]] w fun e w' => e = .returned (.bool false) ∧ Below w.heap.size w w') := fun w => by
              have := sMeet_raw _ _ _ _ si sk w; rwa [hme] at this
            have hrow' : Hid (∀ q, q < k + 1 → meetP (ptAt l1 i) (ptAt l1 (nxt l1 i)) (ptAt l2 q) (ptAt l2 (nxt l2 q)) = false) := fun q hq => by rcases Nat.lt_or_ge q k with h | h; exact hrow q h; obtain rfl : q = k := (by omega); exact hme
            clear hrow hme
            go_wp2_with fail
            refine wp_region_quiet_below (by kernel_rfl) (by kernel_rfl) ?_
            repeat (first | go_big_quiet_step (first | (go_at_call 56; with_reducible exact Calls.regrown_of (X1.out _))))
            refine wpQuiet_nil ?_
            intro _ hw'
            obtain ⟨⟨dq, osq⟩, hw''⟩ := hw'
            subst hw''
            have J := below_regrown wr dq osq
            generalize grow (redrawn wr dq) osq = w5 at J ⊢
            go_wp2_with fail
            go_roundw
            case rel => exact ⟨k + 1, by omega, by simp, hrow'.out, bw_trans hny J⟩
            case measure => simp [intOf]; omega
          · have X1 : Hid (∀ w, Calls Tryd.prog 56 #[.agg #[.int .i64 (ptAt l1 i).1, .int .i64 (ptAt l1 i).2, .int .i64 (ptAt l1 (nxt l1 i)).1, .int .i64 (ptAt l1 (nxt l1 i)).2], .agg #[.int .i64 (ptAt l2 k).1, .int .i64 (ptAt l2 k).2, .int .i64 (ptAt l2 (nxt l2 k)).1, .int .i64 (ptAt l2 (nxt l2 k)).2]] w fun e w' => e = .returned (.bool true) ∧ Below w.heap.size w w') := fun w => by
              have := sMeet_raw _ _ _ _ si sk w; rwa [hme] at this
            have e1 : Hid (apL l1 l2 = false) := by
              change _ = _
              rw [Bool.eq_false_iff]; intro h
              rw [(apL_iff l1 l2).1 h i (by rw [L1.out]; exact hlt) k (by rw [L2.out]; exact hlt2)] at hme; cases hme
            clear hrow hme hall
            go_wp2_with fail
            refine wp_region_quiet_below (by kernel_rfl) (by kernel_rfl) ?_
            repeat (first | go_big_quiet_step (first | (go_at_call 56; with_reducible exact Calls.regrown_of (X1.out _))))
            refine wpQuiet_nil ?_
            intro _ hw'
            obtain ⟨⟨dq, osq⟩, hw''⟩ := hw'
            subst hw''
            have J := below_regrown wr dq osq
            generalize grow (redrawn wr dq) osq = w5 at J ⊢
            go_wp2_with fail
            go_ret
            exact ⟨ret_bool e1.out.symm, bw_trans (bw_trans K2 hny) J⟩
end Go.Proofs.YtfnhbdanfnpdeaaDoor
namespace Go.Proofs.YtfnhbdanfnpdeaaDoor
open Go.RowKit Go.Sort

theorem sApart_pts (a1 a2 : Option Addr) (len1 cap1 len2 cap2 : Nat) (l1 l2 : List P2) (ok1 : okV l1 = true) (ok2 : okV l2 = true) (w : World) (hP1 : Pts w.heap.size w a1 len1 l1) (hP2 : Pts w.heap.size w a2 len2 l2) :
    Calls Tryd.prog 50 #[.slice a1 len1 cap1, .slice a2 len2 cap2] w fun e w' => e = .returned (.bool (apL l1 l2)) ∧ Below w.heap.size w w' := by
  have h1 := okV_pos ok1
  have h2 := okV_pos ok2
  obtain ⟨e1, c1⟩ := hP1
  obtain ⟨e2, c2⟩ := hP2
  rcases c1 with h0 | ⟨b1, off1, rfl, hb1, hc1⟩
  · omega
  rcases c2 with h0 | ⟨b2, off2, rfl, hb2, hc2⟩
  · omega
  exact sApart_ok b1 off1 len1 cap1 b2 off2 len2 cap2 l1 l2 ok1 ok2 e1 e2 w hb1 hb2 hc1 hc2
theorem sInI_pts (a1 : Option Addr) (len1 cap1 : Nat) (l1 : List P2) (p : P2) (ok1 : okV l1 = true) (hp : ptB p.1 p.2 = true) (w : World) (hP1 : Pts w.heap.size w a1 len1 l1) :
    Calls Tryd.prog 49 #[.slice a1 len1 cap1, .agg #[.int .i64 p.1, .int .i64 p.2]] w fun e w' => e = .returned (.int .i64 (inI l1 p)) ∧ Below w.heap.size w w' := by
  have h1 := okV_pos ok1
  obtain ⟨e1, c1⟩ := hP1
  rcases c1 with h0 | ⟨b1, off1, rfl, hb1, hc1⟩
  · omega
  exact sInI_ok b1 off1 len1 cap1 l1 p ok1 hp e1 w hb1 hc1
/-- So many holes lie as they must. -/
def Upto (o : List P2) (hs : List (List P2)) (k : Nat) : Prop := ∀ i, i < k → okV (hs[i]?.getD []) = true ∧ arB o (hs[i]?.getD []) = true ∧ ∀ j, j < i → beB (hs[i]?.getD []) (hs[j]?.getD []) = true
theorem upto_yes {o : List P2} {hs : List (List P2)} (h0 : okV o = true) (hn : hs.length ≤ 2) (h : Upto o hs hs.length) : plV o hs = true := by
  refine (plV_iff o hs).2 ⟨h0, hn, ?_, ?_, ?_⟩
  · intro x hx
    obtain ⟨i, hi, rfl⟩ := List.getElem_of_mem hx
    have := (h i hi).1
    rwa [List.getElem?_eq_getElem hi, Option.getD_some] at this
  · intro x hx
    obtain ⟨i, hi, rfl⟩ := List.getElem_of_mem hx
    have := (h i hi).2.1
    rwa [List.getElem?_eq_getElem hi, Option.getD_some] at this
  · intro i k hik hk
    rw [beB_comm]; exact (h k hk).2.2 i hik
theorem upto_all' {o : List P2} {hs : List (List P2)} (h : plV o hs = true) : Upto o hs hs.length := by
  have L := (plV_iff o hs).1 h
  intro i hi
  have hm : hs[i]?.getD [] ∈ hs := by rw [List.getElem?_eq_getElem hi, Option.getD_some]; exact List.getElem_mem hi
  exact ⟨L.ok _ hm, L.ar _ hm, fun j hj => by rw [beB_comm]; exact L.be j i hj hi⟩
set_option maxRecDepth 100000 in
set_option maxHeartbeats 8000000 in
theorem sPlateOk_any (a ah : Option Addr) (la ca nh ch : Nat) (o : List P2) (hs : List (List P2)) (w : World) (h : Plt w a la ah nh o hs) :
    Calls Tryd.prog 24 #[.agg #[.slice a la ca, .slice ah nh ch]] w fun e W' => e = .returned (.bool (plV o hs)) ∧ Below w.heap.size w W' := by
  obtain ⟨W, hW, BW, T⟩ : ∃ W, W = w.alloc (.cells #[.slice a la ca, .slice ah nh ch] 40) ∧ Below w.heap.size w W ∧ W.heap[w.heap.size]? = some (.cells #[.slice a la ca, .slice ah nh ch] 40) := ⟨_, rfl, (by repeat (first | exact bw_refl _ | assumption | apply bw_drewN | apply bw_drew | apply bw_alloc | refine bw_set ?_ (by simp) _)), heap_new _ _⟩
  replace h := h.below BW
  have hla := h.1
  have hP := h.2.1
  have hcall := sOk_any a la ca o hla W hP
  obtain ⟨t0, t1⟩ := blk_2 T
  have zT := blk_lt T
  cases hok : okV o
  · rw [hok] at hcall
    have e1 : Hid (plV o hs = false) := by
      change _ = _; rw [Bool.eq_false_iff]; intro hc
      rw [((plV_iff o hs).1 hc).out] at hok; cases hok
    go_enter Tryd.func24, Tryd.ntmps24
    go_upto_region 1 with fail
    rw [← hW]
    clear hW
    go_wp2_with (go_at_call 27; refine hcall.mono ?_; rintro e v ⟨rfl, J⟩)
    go_ret
    exact ⟨ret_bool e1.out.symm, bw_trans BW J⟩
  rw [hok] at hcall
  by_cases hb : 2 < nh
  · have hb' : (2 : Int) < (nh : Int) := by omega
    have e1 : Hid (plV o hs = false) := by
      change _ = _; rw [Bool.eq_false_iff]; intro hc
      have := plV_len hc; have := h.2.2.1; omega
    go_enter Tryd.func24, Tryd.ntmps24
    go_upto_region 1 with fail
    rw [← hW]
    clear hW
    go_wp2_with (go_at_call 27; refine hcall.mono ?_; rintro e v ⟨rfl, J⟩; obtain ⟨t0', t1'⟩ := blk_2 (keep J T))
    go_ret
    exact ⟨ret_bool e1.out.symm, bw_trans BW J⟩
  have hb' : ¬ (2 : Int) < (nh : Int) := by omega
  obtain ⟨_, _, hlen, A, L, C, hS, hH⟩ := h
  have HL : Hid (hs.length = nh) := hlen
  have hfin : Hid (Upto o hs nh → plV o hs = true) := fun hu => upto_yes hok (by omega) (by rw [hlen]; exact hu)
  have hno : Hid (∀ i, i < nh → (okV (hs[i]?.getD []) = true → arB o (hs[i]?.getD []) = true → ∃ j, j < i ∧ beB (hs[i]?.getD []) (hs[j]?.getD []) = false) → plV o hs = false) := fun i hi hc => by
    rw [Bool.eq_false_iff]; intro hv
    have hu := upto_all' hv i (by omega)
    obtain ⟨j, hj, e⟩ := hc hu.1 hu.2.1
    rw [hu.2.2 j hj] at e; cases e
  have hokH : Hid (okV o = true) := hok
  have hPt : Hid (∀ l : List P2, okV l = true → ptB (ptAt l 0).1 (ptAt l 0).2 = true ∧ 3 ≤ l.length) := fun l hl => ⟨by have := okV_pos hl; exact (sgP_pt (((okV_iff l).1 hl).seg 0 (by omega))).1, (okV_pos hl).1⟩
  clear hlen hok
  go_enter Tryd.func24, Tryd.ntmps24
  go_upto_region 1 with fail
  rw [← hW]
  clear hW
  go_wp2_with (go_at_call 27; refine hcall.mono ?_; rintro e v ⟨rfl, J⟩; obtain ⟨t0', t1'⟩ := blk_2 (keep J T))
  replace T := keep J T
  replace hP := (hP.below J).grow J.size
  replace hS := (hS.below J).grow J.size
  replace hH : ∀ j, j < nh → L j ≤ 1048576 ∧ Pts v.heap.size v (A j) (L j) (hs[j]?.getD []) := fun j hj => ⟨(hH j hj).1, ((hH j hj).2.below J).grow J.size⟩
  have K := bw_trans BW J
  clear hcall t0 t1 t0' t1' zT J
  go_loopw [3] (fun i wr => ∃ k : Nat, k ≤ nh ∧ i = .int .i64 k ∧ Upto o hs k ∧ Below v.heap.size v wr) (fun i _ => nh - (intOf i).toNat)
  case atStart => exact ⟨0, Nat.zero_le _, rfl, fun i hi => by omega, bw_refl _⟩
  case round =>
    obtain ⟨i, hi, rfl, hu, hnx⟩ := hrel
    obtain ⟨t0, t1⟩ := blk_2 (keep hnx T)
    have zT := blk_lt (keep hnx T)
    by_cases hlt : i < nh
    case neg =>
      obtain rfl : i = nh := by omega
      have e1 : Hid (plV o hs = true) := hfin.out hu
      clear hu
      go_wp2_with fail
      go_ret
      exact ⟨ret_bool e1.out.symm, bw_trans K hnx⟩
    case pos =>
      rcases hS.below hnx with h0 | ⟨b, off, rfl, hbl, hcs⟩
      · omega
      have c0 := hcs i hlt
      have i0 : (0 : Int) ≤ (i : Int) := Int.natCast_nonneg _
      have i1 : (i : Int) < (nh : Int) := by omega
      obtain ⟨hLi, hPi⟩ := hH i hlt
      have hPw := (hP.below hnx).grow hnx.size
      have hPiw := (hPi.below hnx).grow hnx.size
      have HO : Hid (∀ d os, Calls Tryd.prog 27 #[.slice (A i) (L i) (C i)] (grow (redrawn wr d) os) fun e W' => e = .returned (.bool (okV (hs[i]?.getD []))) ∧ Below (grow (redrawn wr d) os).heap.size (grow (redrawn wr d) os) W') := fun d os =>
        sOk_any (A i) (L i) (C i) _ hLi _ ((hPiw.below (below_regrown wr d os)).grow (below_regrown wr d os).size)
      obtain ⟨hh, hhe⟩ : ∃ hh, hs[i]?.getD [] = hh := ⟨_, rfl⟩
      have HE : Hid (hs[i]?.getD [] = hh) := hhe
      rw [hhe] at HO hPi hPiw
      have hnoi := hno.out i hlt
      rw [hhe] at hnoi
      clear hhe
      obtain ⟨u0, u1⟩ := reg_2 (keep hnx T)
      have c0r := cell_regrown c0
      cases hokh : okV hh
      · have e1 : Hid (plV o hs = false) := hnoi (fun e => by rw [hokh] at e; cases e)
        rw [hokh] at HO
        clear hu hnoi
        go_wp2_with fail
        refine wp_region_quiet_below (by kernel_rfl) (by kernel_rfl) ?_
        repeat (first | go_big_quiet_step (first | (go_at_call 27; with_reducible exact Calls.regrown_of (HO.out _ _))))
        refine wpQuiet_nil ?_
        intro _ hw'
        obtain ⟨⟨dq, osq⟩, hw''⟩ := hw'
        subst hw''
        have J := below_regrown wr dq osq
        generalize grow (redrawn wr dq) osq = v2 at J ⊢
        go_wp2_with fail
        go_ret
        exact ⟨ret_bool e1.out.symm, bw_trans (bw_trans K hnx) J⟩
      rw [hokh] at HO
      have hpt := hPt.out hh hokh
      have HI : Hid (∀ d os, Calls Tryd.prog 49 #[.slice a la ca, .agg #[.int .i64 (ptAt hh 0).1, .int .i64 (ptAt hh 0).2]] (grow (redrawn wr d) os) fun e W' => e = .returned (.int .i64 (inI o (ptAt hh 0))) ∧ Below (grow (redrawn wr d) os).heap.size (grow (redrawn wr d) os) W') := fun d os =>
        sInI_pts a la ca o (ptAt hh 0) hokH.out hpt.1 _ ((hPw.below (below_regrown wr d os)).grow (below_regrown wr d os).size)
      have HA : Hid (∀ d os, Calls Tryd.prog 50 #[.slice a la ca, .slice (A i) (L i) (C i)] (grow (redrawn wr d) os) fun e W' => e = .returned (.bool (apL o hh)) ∧ Below (grow (redrawn wr d) os).heap.size (grow (redrawn wr d) os) W') := fun d os =>
        sApart_pts a (A i) la ca (L i) (C i) o hh hokH.out hokh _ ((hPw.below (below_regrown wr d os)).grow (below_regrown wr d os).size) ((hPiw.below (below_regrown wr d os)).grow (below_regrown wr d os).size)
      have hLi3 : 3 ≤ L i := by have := hpt.2; have := hPi.1; omega
      obtain ⟨bi, offi, hai, hbi, f0, f1⟩ := pts_first hPiw (by omega)
      have f0r := cell_regrown f0
      have f1r := cell_regrown f1
      rw [hai] at HO HA c0r
      have p1 : (0 : Int) < (L i : Int) := by omega
      have har : Hid (arB o hh = ((inI o (ptAt hh 0) == 1) && apL o hh)) := by
        change _ = _; unfold arB; rw [Bool.and_comm]; congr 1
      have hq0 : Hid (ptB (ptAt hh 0).1 (ptAt hh 0).2 = true) := hpt.1
      obtain ⟨qq, hqq⟩ : ∃ qq, ptAt hh 0 = qq := ⟨_, rfl⟩
      have HQ : Hid (ptAt hh 0 = qq) := hqq
      rw [hqq] at HI f0r f1r har hq0
      clear hqq f0 f1 hpt
      generalize inI o qq = u at HI har
      cases hu1 : u == 1
      · have hne : (u != 1) = true := by simp only [bne, hu1, Bool.not_false]
        have e1 : Hid (plV o hs = false) := hnoi (fun _ e => by rw [har.out, hu1] at e; cases e)
        clear hu hnoi har
        go_wp2_with fail
        refine wp_region_quiet_below (by kernel_rfl) (by kernel_rfl) ?_
        repeat (first | go_big_quiet_step (first | (go_at_call 27; with_reducible exact Calls.regrown_of (HO.out _ _)) | (go_at_call 49; with_reducible exact Calls.regrown_of (HI.out _ _))))
        refine wpQuiet_nil ?_
        intro _ hw'
        obtain ⟨⟨dq, osq⟩, hw''⟩ := hw'
        subst hw''
        have J := below_regrown wr dq osq
        generalize grow (redrawn wr dq) osq = v2 at J ⊢
        go_wp2_with fail
        go_ret
        exact ⟨ret_bool e1.out.symm, bw_trans (bw_trans K hnx) J⟩
      obtain rfl : u = 1 := by simpa using hu1
      cases hap : apL o hh
      · have e1 : Hid (plV o hs = false) := hnoi (fun _ e => by rw [har.out, hap] at e; cases e)
        rw [hap] at HA
        clear hu hnoi har hap
        go_wp2_with fail
        refine wp_region_quiet_below (by kernel_rfl) (by kernel_rfl) ?_
        repeat (first | go_big_quiet_step (first | (go_at_call 27; with_reducible exact Calls.regrown_of (HO.out _ _)) | (go_at_call 49; with_reducible exact Calls.regrown_of (HI.out _ _)) | (go_at_call 50; with_reducible exact Calls.regrown_of (HA.out _ _))))
        refine wpQuiet_nil ?_
        intro _ hw'
        obtain ⟨⟨dq, osq⟩, hw''⟩ := hw'
        subst hw''
        have J := below_regrown wr dq osq
        generalize grow (redrawn wr dq) osq = v2 at J ⊢
        go_wp2_with fail
        go_ret
        exact ⟨ret_bool e1.out.symm, bw_trans (bw_trans K hnx) J⟩
      rw [hap] at HA
      have haro : Hid (arB o hh = true) := by change _ = _; rw [har.out, hap]; rfl
      have hokhH : Hid (okV hh = true) := hokh
      have huH : Hid (Upto o hs i) := hu
      have hnoiH : Hid (∀ j, j < i → beB hh (hs[j]?.getD []) = false → plV o hs = false) := fun j hj e => hnoi (fun _ _ => ⟨j, hj, e⟩)
      clear hu hnoi har hap hokh
      go_wp2_with fail
      refine wp_region_quiet_below (by kernel_rfl) (by kernel_rfl) ?_
      repeat (first | go_big_quiet_step (first | (go_at_call 27; with_reducible exact Calls.regrown_of (HO.out _ _)) | (go_at_call 49; with_reducible exact Calls.regrown_of (HI.out _ _)) | (go_at_call 50; with_reducible exact Calls.regrown_of (HA.out _ _))))
      refine wpQuiet_nil ?_
      intro _ hw'
      obtain ⟨⟨dq, osq⟩, hw''⟩ := hw'
      subst hw''
      have J := below_regrown wr dq osq
      generalize grow (redrawn wr dq) osq = v2 at J ⊢
      have hn2 := bw_trans hnx J
      clear J HO HI HA c0r f0r f1r u0 u1 t0 t1 zT hcs c0
      go_wp2_with fail
      go_loopw [5] (fun k wr => ∃ k' : Nat, k' ≤ i ∧ k = .int .i64 k' ∧ (∀ j, j < k' → beB hh (hs[j]?.getD []) = true) ∧ Below v.heap.size v wr) (fun k _ => i - (intOf k).toNat)
      case atStart => exact ⟨0, Nat.zero_le _, rfl, fun j hj => by omega, hn2⟩
      case round =>
        obtain ⟨k, hk, rfl, hrow, hny⟩ := hrel
        by_cases hlt2 : k < i
        case neg =>
          obtain rfl : k = i := by omega
          have hup : Hid (Upto o hs (k + 1)) := fun j hj => by
            rcases Nat.lt_or_ge j k with h | h
            · exact huH.out j h
            · obtain rfl : j = k := by omega
              rw [HE.out]; exact ⟨hokhH.out, haro.out, hrow⟩
          clear hrow
          go_wp2_with fail
          go_roundw
          case rel => exact ⟨k + 1, by omega, by simp, hup.out, hny⟩
          case measure => simp [intOf]; omega
        case pos =>
          obtain ⟨t0, t1⟩ := blk_2 (keep hny T)
          have zT := blk_lt (keep hny T)
          rcases hS.below hny with h0 | ⟨b', off', hbo, hbl', hcs⟩
          · omega
          cases hbo
          have ck := hcs k (by omega)
          clear hcs
          have j0 : (0 : Int) ≤ (k : Int) := Int.natCast_nonneg _
          have j1 : (k : Int) < (nh : Int) := by omega
          obtain ⟨hLk, hPk⟩ := hH k (by omega)
          have hokk := (huH.out k hlt2).1
          have hnok := hnoiH.out k hlt2
          have hrow' : Hid (beB hh (hs[k]?.getD []) = true → ∀ j, j < k + 1 → beB hh (hs[j]?.getD []) = true) := fun e j hj => by
            rcases Nat.lt_or_ge j k with h | h
            · exact hrow j h
            · obtain rfl : j = k := by omega
              exact e
          clear hrow
          generalize hs[k]?.getD [] = hk2 at hPk hokk hnok hrow'
          have hPkw := (hPk.below hny).grow hny.size
          have hPiw' := (hPi.below hny).grow hny.size
          have hpt2 := hPt.out hk2 hokk
          have hLk3 : 3 ≤ L k := by have := hpt2.2; have := hPk.1; omega
          have hI1 : Hid (∀ d os, Calls Tryd.prog 49 #[.slice (A k) (L k) (C k), .agg #[.int .i64 qq.1, .int .i64 qq.2]] (grow (redrawn wr d) os) fun e W' => e = .returned (.int .i64 (inI hk2 qq)) ∧ Below (grow (redrawn wr d) os).heap.size (grow (redrawn wr d) os) W') := fun d os =>
            sInI_pts (A k) (L k) (C k) hk2 qq hokk hq0.out _ ((hPkw.below (below_regrown wr d os)).grow (below_regrown wr d os).size)
          have hI2 : Hid (∀ d os, Calls Tryd.prog 49 #[.slice (A i) (L i) (C i), .agg #[.int .i64 (ptAt hk2 0).1, .int .i64 (ptAt hk2 0).2]] (grow (redrawn wr d) os) fun e W' => e = .returned (.int .i64 (inI hh (ptAt hk2 0))) ∧ Below (grow (redrawn wr d) os).heap.size (grow (redrawn wr d) os) W') := fun d os =>
            sInI_pts (A i) (L i) (C i) hh (ptAt hk2 0) hokhH.out hpt2.1 _ ((hPiw'.below (below_regrown wr d os)).grow (below_regrown wr d os).size)
          have HA1 : Hid (∀ d os, Calls Tryd.prog 50 #[.slice (A i) (L i) (C i), .slice (A k) (L k) (C k)] (grow (redrawn wr d) os) fun e W' => e = .returned (.bool (apL hh hk2)) ∧ Below (grow (redrawn wr d) os).heap.size (grow (redrawn wr d) os) W') := fun d os =>
            sApart_pts (A i) (A k) (L i) (C i) (L k) (C k) hh hk2 hokhH.out hokk _ ((hPiw'.below (below_regrown wr d os)).grow (below_regrown wr d os).size) ((hPkw.below (below_regrown wr d os)).grow (below_regrown wr d os).size)
          obtain ⟨bi2, offi2, hai2, hbi2, f0, f1⟩ := pts_first hPiw' (by omega)
          obtain ⟨bk, offk, hak, hbk, g0, g1⟩ := pts_first hPkw (by omega)
          have f0r := cell_regrown f0
          have f1r := cell_regrown f1
          have g0r := cell_regrown g0
          have g1r := cell_regrown g1
          have ckr := cell_regrown ck
          obtain ⟨u0, u1⟩ := reg_2 (keep hny T)
          rw [hai] at hai2
          cases hai2
          rw [hai] at hI2 HA1
          rw [hak] at hI1 HA1 ckr
          rw [HQ.out] at f0r f1r
          have p2 : (0 : Int) < (L k : Int) := by omega
          have hbe : Hid (beB hh hk2 = (apL hh hk2 && (inI hk2 qq == -1) && (inI hh (ptAt hk2 0) == -1))) := by
            change _ = _; rw [Bool.eq_iff_iff, beB_iff, HQ.out]; simp only [Bool.and_eq_true, beq_iff_eq]
            constructor
            · rintro ⟨h1, h2, h3⟩; exact ⟨⟨h1, h3⟩, h2⟩
            · rintro ⟨⟨h1, h2⟩, h3⟩; exact ⟨h1, h3, h2⟩
          generalize inI hk2 qq = v1 at hI1 hbe
          generalize inI hh (ptAt hk2 0) = v3 at hI2 hbe
          generalize ptAt hk2 0 = q3 at *
          clear f0 f1 g0 g1 ck t0 t1
          cases hap : apL hh hk2
          · rw [hap] at HA1
            have e1 : Hid (plV o hs = false) := hnok (by rw [hbe.out, hap]; rfl)
            clear hnok hbe hrow' hap
            go_wp2_with fail
            refine wp_region_quiet_below (by kernel_rfl) (by kernel_rfl) ?_
            repeat (first | go_big_quiet_step (first | (go_at_call 50; with_reducible exact Calls.regrown_of (HA1.out _ _))))
            refine wpQuiet_nil ?_
            intro _ hw'
            obtain ⟨⟨dq, osq⟩, hw''⟩ := hw'
            subst hw''
            have J := below_regrown wr dq osq
            generalize grow (redrawn wr dq) osq = v4 at J ⊢
            go_wp2_with fail
            go_ret
            exact ⟨ret_bool e1.out.symm, bw_trans (bw_trans K hny) J⟩
          rw [hap] at HA1
          cases hv1 : v1 == -1
          · have hne : (v1 != -1) = true := by simp only [bne, hv1, Bool.not_false]
            have e1 : Hid (plV o hs = false) := hnok (by rw [hbe.out, hap, hv1]; rfl)
            clear hnok hbe hrow' hap
            go_wp2_with fail
            refine wp_region_quiet_below (by kernel_rfl) (by kernel_rfl) ?_
            repeat (first | go_big_quiet_step (first | (go_at_call 50; with_reducible exact Calls.regrown_of (HA1.out _ _)) | (go_at_call 49; with_reducible exact Calls.regrown_of (hI1.out _ _))))
            refine wpQuiet_nil ?_
            intro _ hw'
            obtain ⟨⟨dq, osq⟩, hw''⟩ := hw'
            subst hw''
            have J := below_regrown wr dq osq
            generalize grow (redrawn wr dq) osq = v4 at J ⊢
            go_wp2_with fail
            go_ret
            exact ⟨ret_bool e1.out.symm, bw_trans (bw_trans K hny) J⟩
          obtain rfl : v1 = -1 := by simpa using hv1
          cases hv3 : v3 == -1
          · have hne : (v3 != -1) = true := by simp only [bne, hv3, Bool.not_false]
            have e1 : Hid (plV o hs = false) := hnok (by rw [hbe.out, hap, hv3]; rfl)
            clear hnok hbe hrow' hap
            go_wp2_with fail
            refine wp_region_quiet_below (by kernel_rfl) (by kernel_rfl) ?_
            repeat (first | go_big_quiet_step (first | (go_at_call 50; with_reducible exact Calls.regrown_of (HA1.out _ _)) | (go_at_call 49; with_reducible exact Calls.regrown_of (hI1.out _ _)) | (go_at_call 49; with_reducible exact Calls.regrown_of (hI2.out _ _))))
            refine wpQuiet_nil ?_
            intro _ hw'
            obtain ⟨⟨dq, osq⟩, hw''⟩ := hw'
            subst hw''
            have J := below_regrown wr dq osq
            generalize grow (redrawn wr dq) osq = v4 at J ⊢
            go_wp2_with fail
            go_ret
            exact ⟨ret_bool e1.out.symm, bw_trans (bw_trans K hny) J⟩
          obtain rfl : v3 = -1 := by simpa using hv3
          have hrow2 : Hid (∀ j, j < k + 1 → beB hh (hs[j]?.getD []) = true) := hrow'.out (by rw [hbe.out, hap]; rfl)
          clear hnok hbe hrow' hap
          go_wp2_with fail
          refine wp_region_quiet_below (by kernel_rfl) (by kernel_rfl) ?_
          repeat (first | go_big_quiet_step (first | (go_at_call 50; with_reducible exact Calls.regrown_of (HA1.out _ _)) | (go_at_call 49; with_reducible exact Calls.regrown_of (hI1.out _ _)) | (go_at_call 49; with_reducible exact Calls.regrown_of (hI2.out _ _))))
          refine wpQuiet_nil ?_
          intro _ hw'
          obtain ⟨⟨dq, osq⟩, hw''⟩ := hw'
          subst hw''
          have J := below_regrown wr dq osq
          generalize grow (redrawn wr dq) osq = v4 at J ⊢
          go_wp2_with fail
          go_roundw
          case rel => exact ⟨k + 1, by omega, by simp, hrow2.out, bw_trans hny J⟩
          case measure => simp [intOf]; omega
end Go.Proofs.YtfnhbdanfnpdeaaDoor
namespace Go.Proofs.YtfnhbdanfnpdeaaDoor
open Go.RowKit Go.Sort

/-- The letters of loops, a line each. -/
def ptxL (ls : List (List P2)) : List UInt8 := ls.flatMap fun l => txL l ++ [10]
theorem ptxL_snoc (ls : List (List P2)) (l : List P2) : ptxL (ls ++ [l]) = ptxL ls ++ txL l ++ [10] := by unfold ptxL; simp [List.append_assoc]
/-- The text of a plate. -/
def ptB' (o : List P2) (hs : List (List P2)) : ByteArray := if plV o hs then ⟨(ptxL (o :: hs)).toArray⟩ else ⟨#[]⟩
theorem tx_short {l : List P2} (h : okV l = true) : (txL l).length ≤ 352 := by
  have h8 := (okV_pos h).2
  have := txL_len l (fun p hp => by
      obtain ⟨j, hj, rfl⟩ := List.getElem_of_mem hp
      have := okV_pt8 h hj
      unfold ptAt at this
      rwa [List.getElem?_eq_getElem hj, Option.getD_some] at this)
  omega
theorem cells_app (a b : List UInt8) : Lib.byteCells (a ++ b) = Lib.byteCells a ++ Lib.byteCells b := by unfold Lib.byteCells; rw [List.map_append]
theorem cells_len (a : List UInt8) : (Lib.byteCells a).length = a.length := by unfold Lib.byteCells; rw [List.length_map]
set_option maxRecDepth 100000 in
set_option maxHeartbeats 4000000 in
theorem plateText_any (a ah : Option Addr) (la ca nh ch : Nat) (o : List P2) (hs : List (List P2)) (w : World) (hT : Tab w) (h : Plt w a la ah nh o hs) :
    Calls Tryd.prog 19 #[.agg #[.slice a la ca, .slice ah nh ch]] w fun e W' => e = .returned (.string (ptB' o hs)) ∧ Below w.heap.size w W' := by
  obtain ⟨W, hW, BW, TP⟩ : ∃ W, W = w.alloc (.cells #[.slice a la ca, .slice ah nh ch] 40) ∧ Below w.heap.size w W ∧ W.heap[w.heap.size]? = some (.cells #[.slice a la ca, .slice ah nh ch] 40 (0, 0)) := ⟨_, rfl, (by repeat (first | exact bw_refl _ | assumption | apply bw_drewN | apply bw_drew | apply bw_alloc | refine bw_set ?_ (by simp) _)), heap_new _ _⟩
  have zB := BW.size
  have hb := board_any0 a ah la ca nh ch o hs w.heap.size W zB (h.base BW)
  obtain ⟨t0, t1⟩ := blk_2 TP
  cases hv : plV o hs
  · have e1 : Hid (ptB' o hs = ⟨#[]⟩) := by change _ = _; unfold ptB'; rw [hv]; rfl
    rw [hv] at hb
    go_enter Tryd.func19, Tryd.ntmps19
    go_upto_region 1 with fail
    rw [← hW]
    clear hW
    go_wp2_with fail
    refine hb.mono ?_
    rintro e w1 ⟨q, rfl, J, -⟩
    go_wp2_with fail
    go_ret
    exact ⟨ret_str e1.out.symm, bw_trans BW J⟩
  have L := (plV_iff _ _).1 hv
  have e1 : Hid (ptB' o hs = ⟨(ptxL (o :: hs)).toArray⟩) := by change _ = _; unfold ptB'; rw [hv]; rfl
  rw [hv] at hb
  go_enter Tryd.func19, Tryd.ntmps19
  go_upto_region 1 with fail
  rw [← hW]
  clear hW
  go_wp2_with fail
  refine hb.mono ?_
  rintro e v0 ⟨q, rfl, J, hR⟩
  obtain ⟨b, xs, rfl, hR, hx⟩ := hR (by first | exact hv | trivial)
  have K := bw_trans BW J
  have hall : Hid (∀ x ∈ (⟨a, la, ca, o⟩ :: xs : List RingT), okV x.pts = true) := fun x hx' => by
    rcases List.mem_cons.1 hx' with e | e
    · subst e; exact L.out
    · exact L.ok _ (by rw [← hx]; exact List.mem_map.2 ⟨x, e, rfl⟩)
  have hl3 : xs.length ≤ 2 := by have := L.len; rw [← hx, List.length_map] at this; exact this
  have hmap : Hid ((⟨a, la, ca, o⟩ :: xs : List RingT).map RingT.pts = o :: hs) := by change _ = _; rw [List.map_cons, hx]
  have hTv := hT.below K
  have zv := K.size
  have hnew := heap_new v0 (.cells #[.pointer none, .slice none 0 0] 69)
  have hI : Lib.IsBuilderF 69 5 v0.heap.size v0.heap.size (Lib.byteCells (ptxL [])) (v0.alloc (.cells #[.pointer none, .slice none 0 0] 69)) :=
    .inl ⟨Nat.le_refl _, .slice none 0 0, hnew, World.ownsRowF_nil _ _ _ _, by simp [Value.ownBlock]⟩
  have hB0 : Below v0.heap.size v0 (v0.alloc (.cells #[.pointer none, .slice none 0 0] 69)) := (by repeat (first | exact bw_refl _ | assumption | apply bw_drewN | apply bw_drew | apply bw_alloc | refine bw_set ?_ (by simp) _))
  have hRb := hR
  obtain ⟨b0, q0, tt0, e0, ob, ol, oP, hR'⟩ := hRb
  cases e0
  clear hb L hx hnew t0 t1 TP ob ol oP hR' h
  go_wp2_with fail
  obtain ⟨v1, hv1⟩ : ∃ v1, v0.alloc (.cells #[.pointer none, .slice none 0 0] 69) = v1 := ⟨_, rfl⟩
  rw [hv1] at hI hB0 ⊢
  clear hv1
  go_loopw [6] (fun q wr => ∃ (q' : Option Addr) (rest : List RingT) (dn : List (List P2)), q = .pointer q' ∧ dn ++ rest.map RingT.pts = o :: hs ∧ dn.length + rest.length ≤ 3 ∧ (ptxL dn).length ≤ 353 * dn.length ∧ RingL w.heap.size v0 q' rest ∧ (∀ x ∈ rest, okV x.pts = true) ∧ Lib.IsBuilderF 69 5 v0.heap.size v0.heap.size (Lib.byteCells (ptxL dn)) wr ∧ Below v0.heap.size v0 wr) (fun q wr => ringsLeft wr q)
  case atStart => exact ⟨_, ⟨a, la, ca, o⟩ :: xs, [], rfl, by rw [List.nil_append]; exact hmap.out, by simp; omega, by simp [ptxL], hR, hall.out, hI, hB0⟩
  case round =>
    obtain ⟨q', rest, dn, rfl, hde, hdl, hpl, hL, hak, hIB, hnx⟩ := hrel
    have hLw := hL.below hnx zv
    have zw := hnx.size
    cases rest with
    | nil =>
      obtain rfl : q' = none := hL
      have hS := shelf_Builder_String_any_k v0.heap.size v0.heap.size (ptxL dn) wr hIB zw
      rw [List.map_nil, List.append_nil] at hde
      have e2 : Hid (ptB' o hs = ⟨(ptxL dn).toArray⟩) := by change _ = _; rw [e1.out, hde]
      clear hIB hLw hde hdl hpl
      go_wp2_with fail
      refine hS.mono ?_
      rintro e w2 ⟨rfl, -, J2, -⟩
      go_wp2_with fail
      go_ret
      exact ⟨ret_str e2.out.symm, bw_trans K (hnx.trans J2)⟩
    | cons y ys =>
      have hL' := hLw
      have hLv := hL
      obtain ⟨b1, q1, t1, rfl, hb, hlen, hP, hr⟩ := hL
      have hbw := hb.below hnx
      obtain ⟨d0, d1, _, _⟩ := lies2 hbw
      have hoy := hak y (by simp)
      have h8 := (okV_pos hoy).2
      have hsh := tx_short hoy
      have hyl : y.pts.length = y.len := hP.1
      have hPw := (hP.below (hnx.mono zv)).grow (show w.heap.size ≤ wr.heap.size by omega)
      have hok : ∀ i, i < y.len → ptB (ptAt y.pts i).1 (ptAt y.pts i).2 = true := fun i hi => okV_pt8 hoy (by rw [hyl]; exact hi)
      have hPT := ptsText_ok y.a y.len y.cap y.pts (by omega) wr (hTv.below hnx) hPw hok
      have hdl' : dn.length ≤ 2 := by simp only [List.length_cons] at hdl; omega
      go_wp2_with fail
      refine hPT.mono ?_
      rintro e w2 ⟨rfl, J2⟩
      have hI2 := hIB.below J2
      have z2 := J2.size
      have hsz : (txB y.pts).size ≤ 352 := by have := txB_size y.pts; unfold txB ByteArray.size; simpa using hsh
      have hW := shelf_Builder_WriteString v0.heap.size v0.heap.size (Lib.byteCells (ptxL dn)) (txB y.pts) w2 hI2 (by rw [cells_len]; omega) (by omega)
      clear hPT hI2 hIB d0 d1
      go_wp2_with fail
      refine hW.mono ?_
      rintro e w3 ⟨rfl, hA3, J3, -⟩
      have z3 := J3.size
      have hI3 : Lib.IsBuilderF 69 5 v0.heap.size v0.heap.size (Lib.byteCells (ptxL dn ++ txL y.pts)) w3 := by rw [cells_app]; exact .inr hA3
      have hW3 := shelf_Builder_WriteByte v0.heap.size v0.heap.size (Lib.byteCells (ptxL dn ++ txL y.pts)) 10 w3 hI3 (by rw [cells_len, List.length_append]; omega) (by omega)
      clear hW hA3 hI3
      go_wp2_with fail
      refine hW3.mono ?_
      rintro e w4 ⟨rfl, hA4, J4, -⟩
      have hI4 : Lib.IsBuilderF 69 5 v0.heap.size v0.heap.size (Lib.byteCells (ptxL (dn ++ [y.pts]))) w4 := by rw [ptxL_snoc, cells_app]; exact .inr hA4
      have hn4 : Below v0.heap.size v0 w4 := (((hnx.trans (J2.mono zw)).trans J3).trans J4)
      obtain ⟨d0, d1, _, _⟩ := lies2 (hb.below hn4)
      clear hW3 hA4
      go_wp2_with fail
      go_roundw
      case rel => exact ⟨q1, ys, dn ++ [y.pts], rfl, by rw [← hde]; simp, by simp only [List.length_cons, List.length_append, List.length_nil] at hdl ⊢; omega, by rw [ptxL_snoc]; simp only [List.length_append, List.length_cons, List.length_nil]; omega, hr, fun x hx => hak x (by simp [hx]), hI4, hn4⟩
      case measure => rw [ringsLeft_eq (hr.below hn4 zv), ringsLeft_eq hL']; simp
set_option maxRecDepth 100000 in
set_option maxHeartbeats 4000000 in
theorem sPlateText_any (a ah : Option Addr) (la ca nh ch : Nat) (o : List P2) (hs : List (List P2)) (w : World) (h : Plt w a la ah nh o hs) :
    Calls Tryd.prog 17 #[.agg #[.slice a la ca, .slice ah nh ch]] w fun e W' => e = .returned (.string (ptB' o hs)) ∧ Below w.heap.size w W' := by
  obtain ⟨W, hW, BW, TP⟩ : ∃ W, W = w.alloc (.cells #[.slice a la ca, .slice ah nh ch] 40) ∧ Below w.heap.size w W ∧ W.heap[w.heap.size]? = some (.cells #[.slice a la ca, .slice ah nh ch] 40 (0, 0)) := ⟨_, rfl, (by repeat (first | exact bw_refl _ | assumption | apply bw_drewN | apply bw_drew | apply bw_alloc | refine bw_set ?_ (by simp) _)), heap_new _ _⟩
  have zB := BW.size
  have hh := h.below BW
  have hOk := sPlateOk_any a ah la ca nh ch o hs W hh
  obtain ⟨t0, t1⟩ := blk_2 TP
  cases hv : plV o hs
  · have e1 : Hid (ptB' o hs = ⟨#[]⟩) := by change _ = _; unfold ptB'; rw [hv]; rfl
    rw [hv] at hOk
    go_enter Tryd.func17, Tryd.ntmps17
    go_upto_region 1 with fail
    rw [← hW]
    clear hW
    go_wp2_with fail
    refine hOk.mono ?_
    rintro e w1 ⟨rfl, J⟩
    go_wp2_with fail
    go_ret
    exact ⟨ret_str e1.out.symm, bw_trans BW J⟩
  have hPV := (plV_iff _ _).1 hv
  have e1 : Hid (ptB' o hs = ⟨(ptxL (o :: hs)).toArray⟩) := by change _ = _; unfold ptB'; rw [hv]; rfl
  rw [hv] at hOk
  have hoo : okV o = true := hPV.out
  have HO : Hid (∀ j, j < nh → okV (hs[j]?.getD []) = true) := by
    obtain ⟨_, _, hlen, _⟩ := hh
    exact fun j hj => hPV.ok _ (by rw [List.getElem?_eq_getElem (by omega), Option.getD_some]; exact List.getElem_mem _)
  obtain ⟨hla, hP, hlen, A, L, C, hS, hH⟩ := hh
  have HL : Hid (hs.length = nh) := hlen
  have hnh : nh ≤ 2 := by have := hPV.len; omega
  have HS : Hid (∀ k, k < nh → ptxL (o :: hs.take (k + 1)) = ptxL (o :: hs.take k) ++ txL (hs[k]?.getD []) ++ [10]) := fun k hk => by
    have e : o :: hs.take (k + 1) = (o :: hs.take k) ++ [hs[k]?.getD []] := by
      rw [List.take_add_one, List.getElem?_eq_getElem (by omega), Option.getD_some]; simp
    rw [e, ptxL_snoc]
  have H0 : Hid (ptxL (o :: hs.take 0) = txL o ++ [10]) := by change _ = _; rw [List.take_zero]; simp [ptxL]
  have HE : Hid (hs.take nh = hs) := by change _ = _; rw [← hlen, List.take_length]
  have h8 := (okV_pos hoo).2
  have hol : o.length = la := hP.1
  have ho2 : ∀ i, i < la → ptB (ptAt o i).1 (ptAt o i).2 = true := fun i hi => okV_pt8 hoo (by rw [hol]; exact hi)
  have hsh := tx_short hoo
  clear hlen hPV h
  go_enter Tryd.func17, Tryd.ntmps17
  go_upto_region 1 with fail
  rw [← hW]
  clear hW
  go_wp2_with fail
  refine hOk.mono ?_
  rintro e w1 ⟨rfl, J⟩
  have K := bw_trans BW J
  replace TP := keep J TP
  replace hP := (hP.below J).grow J.size
  replace hS := (hS.below J).grow J.size
  replace hH : ∀ j, j < nh → L j ≤ 1048576 ∧ Pts w1.heap.size w1 (A j) (L j) (hs[j]?.getD []) := fun j hj => ⟨(hH j hj).1, ((hH j hj).2.below J).grow J.size⟩
  clear t0 t1 hOk J
  obtain ⟨t0, t1⟩ := blk_2 TP
  have hsz : (txB o).size ≤ 352 := by unfold txB ByteArray.size; simpa using hsh
  have hcat : ∀ l : List UInt8, ByteArray.mk l.toArray ++ ByteArray.mk #[10] = ⟨(l ++ [10]).toArray⟩ := fun l => by
    have e : (ByteArray.mk #[10]) = ByteArray.mk ([10] : List UInt8).toArray := rfl
    rw [e, ByteArray.mk_append_mk]
  have E0 : Hid (txB o ++ ByteArray.mk #[10] = ⟨(ptxL (o :: hs.take 0)).toArray⟩) := by change _ = _; rw [H0.out]; exact hcat _
  have HCt : Hid (∀ l : List UInt8, ByteArray.mk l.toArray ++ ByteArray.mk #[10] = ⟨(l ++ [10]).toArray⟩) := hcat
  clear hcat
  go_wp2_with fail
  refine (sText_ok a la ca o (by omega) w1 hP ho2).mono ?_
  rintro e w2 ⟨rfl, J⟩
  replace K := bw_trans K J
  replace TP := keep J TP
  replace hS := (hS.below J).grow J.size
  replace hH : ∀ j, j < nh → L j ≤ 1048576 ∧ Pts w2.heap.size w2 (A j) (L j) (hs[j]?.getD []) := fun j hj => ⟨(hH j hj).1, ((hH j hj).2.below J).grow J.size⟩
  clear t0 t1 J hP ho2
  obtain ⟨t0, t1⟩ := blk_2 TP
  go_wp2_with fail
  go_loopw [3, 4] (fun s i wr => ∃ k : Nat, k ≤ nh ∧ i = .int .i64 k ∧ s = .string ⟨(ptxL (o :: hs.take k)).toArray⟩ ∧ (ptxL (o :: hs.take k)).length ≤ 353 * (k + 1) ∧ Below w2.heap.size w2 wr) (fun _ i _ => nh - (intOf i).toNat)
  case atStart => exact ⟨0, Nat.zero_le _, rfl, by rw [E0.out], by rw [H0.out]; simp only [List.length_append, List.length_cons, List.length_nil]; omega, bw_refl _⟩
  case round =>
    obtain ⟨k, hk, rfl, rfl, hkl, hnx⟩ := hrel
    obtain ⟨t0, t1⟩ := blk_2 (keep hnx TP)
    by_cases hlt : k < nh
    case neg =>
      obtain rfl : k = nh := by omega
      have e2 : Hid (ptB' o hs = ⟨(ptxL (o :: hs.take k)).toArray⟩) := by change _ = _; rw [e1.out, HE.out]
      clear hkl
      go_wp2_with fail
      go_ret
      exact ⟨ret_str e2.out.symm, bw_trans K hnx⟩
    case pos =>
      rcases hS.below hnx with h0 | ⟨b, off, rfl, hbl, hcs⟩
      · omega
      have c0 := hcs k hlt
      clear hcs
      have i0 : (0 : Int) ≤ (k : Int) := Int.natCast_nonneg _
      have i1 : (k : Int) < (nh : Int) := by omega
      obtain ⟨hLk, hPk⟩ := hH k hlt
      have hokk := HO.out k hlt
      have hk8 := (okV_pos hokk).2
      have hkn : (hs[k]?.getD []).length = L k := hPk.1
      have hk2 : ∀ i, i < L k → ptB (ptAt (hs[k]?.getD []) i).1 (ptAt (hs[k]?.getD []) i).2 = true := fun i hi => okV_pt8 hokk (by rw [hkn]; exact hi)
      have hksh := tx_short hokk
      have hst := HS.out k hlt
      have hkz : (txB (hs[k]?.getD [])).size ≤ 352 := by unfold txB ByteArray.size; simpa using hksh
      have hCt := sText_ok (A k) (L k) (C k) (hs[k]?.getD []) (by omega) wr ((hPk.below hnx).grow hnx.size) hk2
      have E1 : Hid (ByteArray.mk (ptxL (o :: hs.take k)).toArray ++ txB (hs[k]?.getD []) ++ ByteArray.mk #[10] = ⟨(ptxL (o :: hs.take (k + 1))).toArray⟩) := by
        change _ = _
        unfold txB
        rw [show (ByteArray.mk #[10]) = ByteArray.mk ([10] : List UInt8).toArray from rfl, ByteArray.mk_append_mk, ByteArray.mk_append_mk, hst]
      have hlen1 : (ptxL (o :: hs.take (k + 1))).length ≤ 353 * (k + 1 + 1) := by rw [hst]; simp only [List.length_append, List.length_cons, List.length_nil]; omega
      have hpz : (ByteArray.mk (ptxL (o :: hs.take k)).toArray).size ≤ 1059 := by unfold ByteArray.size; simp; omega
      clear hst hk2 hPk hksh
      generalize hgT : txB (hs[k]?.getD []) = tk at *
      generalize hgP : ByteArray.mk (ptxL (o :: hs.take k)).toArray = pk at *
      go_wp2_with fail
      refine hCt.mono ?_
      rintro e w3 ⟨rfl, J⟩
      go_wp2_with fail
      go_roundw
      case rel => exact ⟨k + 1, by omega, by simp, by rw [E1.out], hlen1, bw_trans hnx J⟩
      case measure => simp [intOf]; omega
end Go.Proofs.YtfnhbdanfnpdeaaDoor
namespace Go.Proofs.YtfnhbdanfnpdeaaDoor
open Go.RowKit Go.Sort

set_option maxRecDepth 100000 in
set_option maxHeartbeats 2000000 in
theorem exPlateText_walk (W : World) (a : Option Addr) (la ca : Nat) (o : List P2) (ah : Option Addr) (nh ch : Nat) (hs : List (List P2)) (hC : Came W a la ca o) (hH : CameH W ah nh hs) (hT : Tab W) :
    Calls Tryd.prog 5 #[.agg #[.slice a la ca, .slice ah nh ch]] W fun e w' => e = .returned (.bool true) ∧ Below W.heap.size W w' := by
  have hla := hC.len.2
  have hP := hC.pts
  obtain ⟨hlen, hnm, A, L, C, hS, hHH⟩ := hH
  have hcall := szPlate_any a ah la ca nh ch A L C hla hnm (fun j hj => (hHH j hj).len.2)
  obtain ⟨W1, hW1, BW, T⟩ : ∃ W1, W1 = W.alloc (.cells #[.slice a la ca, .slice ah nh ch] 35) ∧ Below W.heap.size W W1 ∧ W1.heap[W.heap.size]? = some (.cells #[.slice a la ca, .slice ah nh ch] 35 (0, 0)) := ⟨_, rfl, (by repeat (first | exact bw_refl _ | assumption | apply bw_drewN | apply bw_drew | apply bw_alloc | refine bw_set ?_ (by simp) _)), heap_new _ _⟩
  replace hcall := hcall W1 ((hS.below BW).grow BW.size)
  obtain ⟨t0, t1⟩ := blk_2 T
  go_enter Tryd.func5, Tryd.ntmps5
  go_upto_region 2 with fail
  rw [← hW1]
  clear hW1
  go_wp2_with fail
  refine hcall.mono ?_
  clear hcall
  rintro e w1 ⟨J1, hr⟩
  have K1 := bw_trans BW J1
  rcases hr with rfl | ⟨r, r0, r1, rfl, hla1, hn, hLL⟩
  · go_wp2_with fail
    go_ret
    exact ⟨rfl, K1⟩
  have hr0 : ¬ (r < 0) := by omega
  have hPl : Plt w1 a la ah nh o hs := ⟨hla1, (hP.below K1).grow K1.size, hlen, A, L, C, (hS.below K1).grow K1.size, fun j hj => ⟨hLL j hj, ((hHH j hj).pts.below K1).grow K1.size⟩⟩
  clear hS hHH hP hC hLL
  replace T := keep J1 T
  clear t0 t1 J1
  obtain ⟨t0, t1⟩ := blk_2 T
  go_wp2_with fail
  refine (toPlate_any a ah la ca nh ch o hs _ hPl hn).mono ?_
  rintro e w3 ⟨g3, gh3, rfl, hPl3, J⟩
  replace K1 := bw_trans K1 J
  replace T := keep J T
  replace hPl := hPl.below J
  clear t0 t1 J
  obtain ⟨t0, t1⟩ := blk_2 T
  go_wp2_with fail
  refine (sPlateText_any _ _ la la nh nh o hs _ hPl3).mono ?_
  rintro e w5 ⟨rfl, J⟩
  replace K1 := bw_trans K1 J
  replace T := keep J T
  replace hPl := hPl.below J
  clear t0 t1 J hPl3
  obtain ⟨t0, t1⟩ := blk_2 T
  go_wp2_with fail
  refine (toPlate_any a ah la ca nh ch o hs _ hPl hn).mono ?_
  rintro e w6 ⟨g6, gh6, rfl, hPl6, J⟩
  replace K1 := bw_trans K1 J
  replace T := keep J T
  replace hPl := hPl.below J
  clear t0 t1 J
  obtain ⟨W7, hW7, B7, X⟩ : ∃ W7, W7 = w6.alloc (.cells #[.slice (some ⟨g6, 0, none⟩) la la, .slice (some ⟨gh6, 0, none⟩) nh nh] 40) ∧ Below w6.heap.size w6 W7 ∧ W7.heap[w6.heap.size]? = some (.cells #[.slice (some ⟨g6, 0, none⟩) la la, .slice (some ⟨gh6, 0, none⟩) nh nh] 40 (0, 0)) := ⟨_, rfl, (by repeat (first | exact bw_refl _ | assumption | apply bw_drewN | apply bw_drew | apply bw_alloc | refine bw_set ?_ (by simp) _)), heap_new _ _⟩
  replace K1 := bw_trans K1 B7
  replace T := keep B7 T
  replace hPl := hPl.below B7
  replace hPl6 := hPl6.below B7
  clear B7
  go_upto_region 7 with fail
  rw [← hW7]
  clear hW7
  obtain ⟨t0, t1⟩ := blk_2 T
  obtain ⟨x0, x1⟩ := blk_2 X
  go_wp2_with fail
  refine (plateText_any _ _ la la nh nh o hs _ (hT.below K1) hPl6).mono ?_
  rintro e w9 ⟨rfl, J⟩
  replace K1 := bw_trans K1 J
  replace T := keep J T
  replace X := keep J X
  replace hPl := hPl.below J
  replace hPl6 := hPl6.below J
  clear t0 t1 x0 x1 J
  obtain ⟨t0, t1⟩ := blk_2 T
  obtain ⟨x0, x1⟩ := blk_2 X
  generalize ptB' o hs = tx at *
  go_wp2_with fail
  have TD : w9.drew.heap[W.heap.size]? = some (.cells #[.slice a la ca, .slice ah nh ch] 35) := T
  have XD : w9.drew.heap[w6.heap.size]? = some (.cells #[.slice (some ⟨g6, 0, none⟩) la la, .slice (some ⟨gh6, 0, none⟩) nh nh] 40) := X
  have hPlD : Plt w9.drew a la ah nh o hs := hPl
  have hPl6D : Plt w9.drew (some ⟨g6, 0, none⟩) la (some ⟨gh6, 0, none⟩) nh o hs := hPl6
  have KD : Below W.heap.size W w9.drew := K1.drew
  go_region_held3 (fun w' => (w'.cell? ⟨W.heap.size, 0, none⟩ = some (.slice a la ca) ∧ w'.cell? ⟨W.heap.size, 1, none⟩ = some (.slice ah nh ch)) ∧ (w'.cell? ⟨w6.heap.size, 0, none⟩ = some (.slice (some ⟨g6, 0, none⟩) la la) ∧ w'.cell? ⟨w6.heap.size, 1, none⟩ = some (.slice (some ⟨gh6, 0, none⟩) nh nh)))
    (first | go_keep | exact ⟨blk_2 TD, blk_2 XD⟩)
    (first
      | (go_at_call 18; refine (toPlate_any a ah la ca nh ch o hs _ hPlD hn).mono ?_; rintro e w10 ⟨g10, gh10, rfl, hPl10, J⟩; replace KD := bw_trans KD J; replace TD := keep J TD; replace XD := keep J XD; replace hPl6D := hPl6D.below J; clear J)
      | (go_at_call 20; refine (eqPlate_same _ _ _ _ la la nh nh la nh o hs _ hPl6D hPl10 hn).mono ?_; rintro e w11 ⟨rfl, J⟩; replace KD := bw_trans KD J; replace TD := keep J TD; replace XD := keep J XD; clear J))
  go_wp2_with fail
  go_ret
  exact ⟨rfl, KD⟩
end Go.Proofs.YtfnhbdanfnpdeaaDoor
namespace Go.Proofs.YtfnhbdanfnpdeaaDoor
open Go.ChangeShapes Go.WideShapes Go.ChangeAt Go.RowKit

theorem own : ownKnob Tryd.prog.godebug = none := by kernel_rfl
theorem laidOut : laidOutB Tryd.prog = true := by kernel_rfl
/-- The list. -/
def listTab : List (String × DataW Unit) := [("math/bits.deBruijn32tab", Rows.laid_math_bits_deBruijn32tab), ("math/bits.deBruijn64tab", Rows.laid_math_bits_deBruijn64tab), ("internal/strconv.uint64pow10", Rows.laid_internal_strconv_uint64pow10)]
theorem gPType : (Tryd.prog.globals[5]?).map (·.type) = some 164 := by kernel_rfl
theorem cellsU64 : Tryd.prog.cellsOf 145 = 1 := by kernel_rfl
theorem cellsTab : Tryd.prog.cellsOf 164 = 20 := by kernel_rfl
theorem tabSame : Rows.laid_internal_strconv_uint64pow10 (H := Unit) = Lib.tabData .u64 Lib.pow10Tab := by kernel_rfl
theorem tab_of_laid {W : World} (h : laidMetH Tryd.prog listTab W) : Tab W := by
  rw [MakeChecks.laidMetH_plain _ _ _ (by kernel_rfl)] at h
  have h3 : laidMet Tryd.prog [("internal/strconv.uint64pow10", Rows.laid_internal_strconv_uint64pow10)] W := (laidMet.tail (laidMet.tail h))
  rw [tabSame] at h3
  exact Lib.tabIs_of_head gP gPType Tryd.underlying164 Tryd.underlying145 cellsU64 cellsTab h3
/-- The door's own heap meets the condition. -/
theorem door_met_tab (os : Os) (args : Array Value) : laidMetH Tryd.prog listTab ((World.doorLaid Tryd.prog 72 os).forCall (fun _ _ => 0) ⟨#[], args, []⟩).memory :=
  laidMetH_of_parts3 (fuel := 8) (laidMet_of_run' 8 (by kernel_rfl) (by kernel_rfl)) (by kernel_rfl) (by kernel_rfl)
end Go.Proofs.YtfnhbdanfnpdeaaDoor
namespace Go.Proofs.YtfnhbdanfnpdeaaDoor
open Go.ChangeShapes Go.WideShapes Go.ChangeAt Go.RowKit Go.Joins
open Go.ChangeMaps (open_string shut_string)

set_option maxRecDepth 100000 in
theorem fnExactPlateText_lifted (os : Os) (started : os.Started) (H : Type) (enc : TypeId × Value → H) :
    ReturnsInHanded {} Tryd.checked os 5 .any (fun w args => (Rows.fnExactPlateTextSpec.pre enc Tryd.prog Tryd.f5 [] false w args ∧ laidMetH Tryd.prog Rows.fnExactPlateTextRow.laid w) ∧ sizedMet enc Tryd.prog Tryd.f5 (OpenSpec.ofChange Rows.fnExactPlateTextSpec) false w args)
      (Rows.fnExactPlateTextSpec.post enc Tryd.prog Tryd.f5 false true false false) := by
  refine returnsInHanded_of_change_and (C := Tryd.checked) (X := fun w _ => laidMetH Tryd.prog Rows.fnExactPlateTextRow.laid w) (fun _ _ _ hh h => h.of_heap hh) own started (by kernel_rfl) Tryd.func5
    (ChangeSpec.witness_shaped (enc := enc) (C := Tryd.checked) (os := os) (X := fun w _ => laidMetH Tryd.prog Rows.fnExactPlateTextRow.laid w) false (World.doorLaid Tryd.prog 72 os) #[.agg #[.slice none 0 0, .slice none 0 0]] 8 rfl (World.shaped_of_RefB (by kernel_rfl) (by kernel_rfl)) (by kernel_rfl) (by kernel_rfl) (by kernel_rfl) (door_met_tab os _)) ?_
  intro W base args ds gs before hval0 hW _ _ hL _
  have hval : ∀ (j : Nat) t v, Tryd.f5.params[j]? = some t → args[j]? = some v → Value.okWide Tryd.prog W .any base t v := hval0
  have hW' := hW
  obtain ⟨p, q, hA0, hV, rfl, hfz, hnd⟩ := hW
  have hA : DataW.TrodAll enc Tryd.prog W 0 (fun _ => true) true Tryd.f5.params.toList args.toList ds p := hA0
  rw [Tryd.params5] at hA hval
  obtain ⟨v0, vs0, d0, ds0, p0, q0, hargs, rfl, rfl, h0, r0⟩ := trodAll_cons hA
  obtain ⟨rfl, rfl, rfl⟩ := trodAll_nil r0
  obtain rfl : args = #[v0] := by cases args; simp_all
  obtain ⟨rfl, rfl⟩ := trodVars_none hV
  have htab := tab_of_laid hL
  have k0 := h0
  have lt0 : ∀ x ∈ p0, x.block < W.heap.size := by obtain ⟨m, hm⟩ := k0; exact DataW.trod_lt m _ _ _ hm
  obtain ⟨a0, la0, ca0, o0, ah0, nh0, ch0, hs0, rfl, w0, wh0⟩ := open_plate (hval 0 35 v0 rfl rfl) h0
  clear hA0 hval0
  refine (exPlateText_walk W a0 la0 ca0 o0 ah0 nh0 ch0 hs0 w0 wh0 htab).mono fun e W' ⟨he, bel⟩ => ?_
  subst he
  exact ⟨_, rfl, _, _, _, [], _, [], hW', trodAll_mk1 (shut_bool Tryd.underlying4 _), (trodAll_cons_mk (Below.trod laidOut (by kernel_rfl) (of_decide_eq_true (by kernel_rfl)) k0 bel lt0) trodAll_mk0), rfl, bel.frame _, fun h => by cases h⟩

theorem fnExactPlateText_said : Rows.FnExactPlateTextSaid :=
  OpenClaim.holds_of_wide 5 Tryd.f5 rfl rfl rfl rfl rfl rfl rfl ⟨rfl, rfl, rfl, rfl, rfl⟩ rfl rfl rfl rfl rfl (by kernel_rfl) Tryd.func5 (by kernel_rfl)
    (of_decide_eq_true (by kernel_rfl)) (by unfold Func.isWrapper; first | (rw [if_pos (by decide +kernel)]; kernel_rfl) | (rw [if_neg (by decide +kernel)]; exact ⟨rfl, rfl⟩))
    (fun os started H enc _ => fnExactPlateText_lifted os started H enc)

theorem fnExactPlateText_plain (f : FuncId) (fn : Func) (hf : Tryd.pinned.checked.prog.funcNamed "loop.example/mortiser/laws.FnExactPlateText" = some f) (hfn : Tryd.pinned.checked.prog.funcs[f]? = some fn) :
    true = Tryd.pinned.checked.prog.looks [] ∧ ∀ (j : Nat) t, fn.params[j]? = some t → Tryd.pinned.checked.prog.wantsStandIn t = false := by
  obtain rfl : f = 5 := Option.some.inj ((show Tryd.prog.funcNamed "loop.example/mortiser/laws.FnExactPlateText" = some 5 by kernel_rfl).symm.trans hf) |>.symm
  obtain rfl : fn = Tryd.f5 := (Option.some.inj (Tryd.func5.symm.trans hfn)).symm
  refine ⟨by kernel_rfl, fun j t ht => ?_⟩
  rw [Tryd.params5] at ht
  have hm := Array.mem_of_getElem? ht
  simp only [List.mem_toArray, List.mem_cons, List.not_mem_nil, or_false] at hm
  subst hm
  exact (show Tryd.prog.wantsStandIn 35 = false by kernel_rfl)

/-- THE STATEMENT. -/
theorem fnExactPlateText_card : Rows.FnExactPlateTextCardSaid :=
  Claim7.holds_tied_plain_at .later [] _ _ _ _ fnExactPlateText_said (fun _ h => by cases h) (by kernel_rfl) (fun _ h => by cases h) fnExactPlateText_row_tie rfl ⟨rfl, rfl⟩ (by kernel_rfl) rfl fnExactPlateText_plain (by kernel_rfl)
end Go.Proofs.YtfnhbdanfnpdeaaDoor
