/-
  OUR OWN TEXT. The law FnExactPlateEdges, for every input: the call returns true, and each argument reads as it did. Texts of ours, joined, so that the claim keeps to its number of files. Conditions: none but the row's own.
-/
import Derived.Test.YthedlopfjlnogaaRingE
import Derived.Test.YthedlopfjlnogaaPlateI
import Derived.Test.YthedlopfjlnogaaEqSegs
import Derived.Test.YthedlopfjlnogaaLEdges
import Derived.Test.YthedlopfjlnogaaPlateE
import Derived.Test.YthedlopfjlnogaaSOk
import Derived.Test.YthedlopfjlnogaaLoopX
import Derived.Test.YthedlopfjlnogaaPass
import Derived.Test.YthedlopfjlnogaaBack
import Derived.Test.YthedlopfjlnogaaBoard
import Derived.Deep.DeepAppendWide
import Derived.Test.YthedlopfjlnogaaChecked
import Derived.ProofKit
import Derived.OpenShut
import Derived.Lib.SmallJoins
import Derived.Test.YthedlopfjlnogaaToPts
import Derived.Deep.SlicePairs
import Derived.Deep.Slices
import Derived.Test.YthedlopfjlnogaaMarkPl
import Derived.Deep.RegionHeld3
import Derived.Test.YthedlopfjlnogaaRows
import Derived.ShutString
import Derived.ChangeOld
import Derived.Below
namespace Go.Proofs.Ythedlopfjlnogaa
open Go.RowKit Go.Sort

/-- The edges that are told of a plate. -/
def plE (o : List P2) (hs : List (List P2)) : List (P2 × P2) := if plV o hs then segsL o ++ hs.flatMap segsL else []
theorem flat_len (hs : List (List P2)) (h : ∀ x ∈ hs, x.length ≤ 8) : (hs.flatMap segsL).length ≤ 8 * hs.length := by
  induction hs with
  | nil => simp
  | cons x xs ih =>
    have h1 := h x (by simp)
    have h2 := ih (fun y hy => h y (by simp [hy]))
    rw [List.flatMap_cons, List.length_append, segsL_len, List.length_cons]; omega
theorem plE_len (o : List P2) (hs : List (List P2)) : (plE o hs).length ≤ 24 := by
  unfold plE
  cases hv : plV o hs
  · simp
  · have L := (plV_iff o hs).1 hv
    have h0 := (okV_pos L.out).2
    have h1 := plV_len hv
    have h2 := flat_len hs (fun x hx => (okV_pos (L.ok x hx)).2)
    rw [if_pos rfl, List.length_append, segsL_len]; omega
theorem edgR_eq (x : RingT) (xs : List RingT) (hs : List (List P2)) (h : xs.map RingT.pts = hs) : edgR (x :: xs) = segsL x.pts ++ hs.flatMap segsL := by
  rw [← h]; simp [edgR, List.flatMap_map]
theorem ansS_mono {base base' top : Nat} {W : World} {v : Value} {ss : List (P2 × P2)} (h : AnsS base top W v ss) (hb : base' ≤ base) : AnsS base' top W v ss := by
  rcases h with h | ⟨g, c, e, h1, r⟩
  · exact .inl h
  · exact .inr ⟨g, c, e, by omega, r⟩
end Go.Proofs.Ythedlopfjlnogaa
namespace Go.Proofs.Ythedlopfjlnogaa
open Go.RowKit Go.Sort

/-- The edges that are told of a loop. -/
def edgV (l : List P2) : List (P2 × P2) := if okV l then segsL l else []
theorem edgV_len (l : List P2) : (edgV l).length ≤ 8 := by
  unfold edgV
  cases h : okV l
  · simp
  · have := ((okV_iff l).1 h).hi; rw [if_pos rfl, segsL_len]; omega
theorem loopEdges_ans (a : Option Addr) (len cap : Nat) (pts : List P2) (hlen : len ≤ 1048576) (w : World) (hP : Pts w.heap.size w a len pts) :
    Calls Try.prog 24 #[.slice a len cap] w fun e W' => ∃ v, e = .returned v ∧ AnsS w.heap.size W'.heap.size W' v (edgV pts) ∧ Below w.heap.size w W' := by
  refine (loopEdges_any a len cap pts hlen w hP).mono ?_
  rintro e W' ⟨h, J⟩
  unfold edgV
  rcases h with ⟨h, rfl⟩ | ⟨h, v, rfl, ho⟩
  · rw [h]; exact ⟨_, rfl, .inl ⟨rfl, _, _, rfl⟩, J⟩
  · rw [h]; refine ⟨_, rfl, AnsS.of_owns (n := len) ?_ (by rw [if_pos rfl, segsL_len]; exact hP.1), J⟩
    rw [if_pos rfl, segsL_cells, hP.1]; exact ho
theorem sLoopEdges_ans (a : Option Addr) (len cap : Nat) (pts : List P2) (hlen : len ≤ 1048576) (w : World) (hP : Pts w.heap.size w a len pts) :
    Calls Try.prog 34 #[.slice a len cap] w fun e W' => ∃ v, e = .returned v ∧ AnsS w.heap.size W'.heap.size W' v (edgV pts) ∧ Below w.heap.size w W' := by
  refine (sLoopEdges_any a len cap pts hlen w hP).mono ?_
  rintro e W' ⟨⟨v, rfl, ho⟩, J⟩
  unfold edgV
  cases h : okV pts
  · rw [h] at ho
    exact ⟨_, rfl, AnsS.of_owns (n := 0) ho rfl, J⟩
  · rw [h, if_pos rfl] at ho
    refine ⟨_, rfl, AnsS.of_owns (n := len) ?_ (by rw [if_pos rfl, segsL_len]; exact hP.1), J⟩
    rw [if_pos rfl, segsL_cells, hP.1]; exact ho
theorem PtBlk.own {W : World} {g c n : Nat} {l : List P2} (h : PtBlk W g c l n) : Own W g (c * 2) 33 := by obtain ⟨cur, h, hs, _⟩ := h; exact ⟨cur, h, hs⟩
set_option maxRecDepth 100000 in
set_option maxHeartbeats 2000000 in
theorem exLoopEdges_walk (W : World) (a : Option Addr) (len cap : Nat) (l : List P2) (hC : Came W a len cap l) :
    Calls Try.prog 9 #[.slice a len cap] W fun e w' => e = .returned (.bool true) ∧ Below W.heap.size W w' := by
  have hm := hC.len.2
  have hl := hC.len.1
  have hP := hC.pts
  clear hC
  by_cases hlen : (1048576 : Int) < (len : Int)
  · have hz : ∀ w, Calls Try.prog 33 #[.slice a len cap, .int .i64 1048576] w fun e w' => e = .returned (.int .i64 (-1)) ∧ w' = w := fun w => by
      have := sz_any a len cap 1048576 (by omega) (by omega) hm w; rwa [if_pos hlen] at this
    go_enter Try.func9, Try.ntmps9
    go_wp2_with (go_at_call 33; refine (hz _).mono ?_; rintro e w' ⟨rfl, rfl⟩)
    go_ret
    exact ⟨rfl, (by repeat (first | exact bw_refl _ | assumption | apply bw_drewN | apply bw_drew | apply bw_alloc | refine bw_set ?_ (by simp) _))⟩
  have hz : ∀ w, Calls Try.prog 33 #[.slice a len cap, .int .i64 1048576] w fun e w' => e = .returned (.int .i64 (1048576 - len)) ∧ w' = w := fun w => by
    have := sz_any a len cap 1048576 (by omega) (by omega) hm w; rwa [if_neg hlen] at this
  have hn : len ≤ 1048576 := by omega
  have hnn : ¬ (1048576 - (len : Int) < 0) := by omega
  have hse := edgV_len l
  have n1 : ¬ (1 + 2 * (len : Int) < 0) := by omega
  have n2 : ¬ (1 + 4 * ((edgV l).length : Int) < 0) := by omega
  go_enter Try.func9, Try.ntmps9
  go_wp2_with (go_at_call 33; refine (hz _).mono ?_; rintro e w' ⟨rfl, rfl⟩)
  refine (toPts_any a len cap l _ hP hn).mono ?_
  rintro e w1 ⟨g1, rfl, hg1, hb1, J1⟩
  go_wp2_with fail
  refine (sLoopEdges_ans _ len len l hn _ (hb1.pts hl)).mono ?_
  rintro e w2 ⟨v2, rfl, A2, J2⟩
  have K2 := bw_trans J1 J2
  go_wp2_with fail
  refine (toPts_any a len cap l _ ((hP.below K2).grow K2.size) hn).mono ?_
  rintro e w3 ⟨g3, rfl, hg3, hb3, J3⟩
  have hg33 := hb3.lt
  have K3 := bw_trans K2 J3
  replace A2 := A2.below J3
  go_wp2_with fail
  refine (loopEdges_ans _ len len l hn _ (hb3.pts hl)).mono ?_
  rintro e w4 ⟨v4, rfl, A4, J4⟩
  have K4 := bw_trans K3 J4
  replace A2 := A2.below J4
  replace hb3 := hb3.below J4
  go_wp2_with fail
  refine (eqSegs_same _ _ _ _ v4 v2 _ _ A4 A2 (by omega)).mono ?_
  rintro e w5 ⟨rfl, J5⟩
  have K5 := bw_trans K4 J5
  replace A2 := A2.below J5
  replace A4 := A4.below J5
  replace hb3 := hb3.below J5
  go_wp2_with fail
  refine (toPts_any a len cap l _ ((hP.below K5).grow K5.size) hn).mono ?_
  rintro e w6 ⟨g6, rfl, hg6, hb6, J6⟩
  have K6 := bw_trans K5 J6
  replace A2 := A2.below J6
  replace A4 := A4.below J6
  replace hb3 := hb3.below J6
  go_wp2_with fail
  refine (eqPts_same _ _ len _ _ l _ (hb3.pts hl) (hb6.pts hl) hn).mono ?_
  rintro e w7 ⟨rfl, J7⟩
  have K7 := bw_trans K6 J7
  replace A2 := A2.below J7
  replace A4 := A4.below J7
  replace hb3 := hb3.below J7
  go_wp2_with fail
  refine (markPts_any g3 len len (len * 2) 1 _ hb3.own (Nat.le_refl _) hn (by omega) (by omega)).mono ?_
  rintro e w8 ⟨rfl, hO8, O8⟩
  have z2 := J2.size
  have z1 := J1.size
  have z3 := J3.size
  have z37 : w3.heap.size ≤ w7.heap.size := by have := J4.size; have := J5.size; have := J6.size; have := J7.size; omega
  have K8 : Below w'.heap.size w' w8 := K7.trans (O8.below' (B := w'.heap.size) (by omega) (by omega))
  replace A2 := A2.only O8 (.inr hg3)
  replace A4 := A4.only O8 (.inl hg33)
  go_wp2_with fail
  refine (eqSegs_same _ _ _ _ v4 v2 _ _ A4 A2 (by omega)).mono ?_
  rintro e w9 ⟨rfl, J9⟩
  have K9 := bw_trans K8 J9
  replace A2 := A2.below J9
  replace A4 := A4.below J9
  go_wp2_with fail
  refine (markSegs_ans _ _ v4 _ _ A4 (by omega)).mono ?_
  rintro e w10 ⟨rfl, N10, r, hr, O10⟩
  have z9 : w3.heap.size ≤ w9.heap.size := by have := O8.size; have := J9.size; omega
  have K10 : Below w'.heap.size w' w10 := K9.trans (O10.below' (B := w'.heap.size) (by omega) (by omega))
  replace A2 := A2.only O10 (.inr (by omega))
  go_wp2_with fail
  refine (heldSegs_ans v4 _ _ N10 (by omega)).mono ?_
  rintro e w11 ⟨rfl, J11⟩
  have K11 := bw_trans K10 J11
  replace A2 := A2.below J11
  replace N10 := N10.below J11
  go_wp2_with fail
  refine (toPts_any a len cap l _ ((hP.below K11).grow K11.size) hn).mono ?_
  rintro e w12 ⟨g12, rfl, hg12, hb12, J12⟩
  have K12 := bw_trans K11 J12
  replace A2 := A2.below J12
  replace N10 := N10.below J12
  go_wp2_with fail
  refine (loopEdges_ans _ len len l hn _ (hb12.pts hl)).mono ?_
  rintro e w13 ⟨v13, rfl, A13, J13⟩
  have K13 := bw_trans K12 J13
  replace A2 := A2.below J13
  replace N10 := N10.below J13
  go_wp2_with fail
  refine (eqSegs_same _ _ _ _ v13 v2 _ _ A13 A2 (by omega)).mono ?_
  rintro e w14 ⟨rfl, J14⟩
  have K14 := bw_trans K13 J14
  replace N10 := N10.below J14
  go_wp2_with fail
  refine (heldSegs_ans v4 _ _ N10 (by omega)).mono ?_
  rintro e w15 ⟨rfl, J15⟩
  go_wp2_with fail
  go_ret
  exact ⟨rfl, bw_trans K14 J15⟩
end Go.Proofs.Ythedlopfjlnogaa
namespace Go.Proofs.Ythedlopfjlnogaa
open Go.RowKit Go.Shelf Go.Sort

theorem collect_any (B : Nat) (q : Option Addr) (rs : List RingT) (w : World) (hB : w.cell? ⟨B, 0, none⟩ = some (.pointer q)) (hR : RingN w.heap.size w q rs) (hes : (edgR rs).length ≤ 1000) :
    Calls Try.prog 54 #[.func (.func 85) #[] #[.pointer (some ⟨B, 0, none⟩)]] w fun e W' => ∃ v, e = .returned v ∧ W'.ownsRow w.heap.size 44 4 v (edgR rs).length (cellsS (edgR rs)) ∧ Below w.heap.size w W' := by
  have hcall := callsIn_wide.1 (appendSeq_in 10 (Nat.le_refl _) B q rs w hB hR hes)
  go_enter Try.func54, Try.ntmps54
  go_wp2_with fail
  refine hcall.mono ?_
  rintro e w1 ⟨v, rfl, ho, J⟩
  go_wp2_with fail
  go_ret
  exact ⟨v, rfl, ho, J⟩
set_option maxRecDepth 100000 in
set_option maxHeartbeats 2000000 in
theorem plateEdges_ans (a ah : Option Addr) (la ca nh ch : Nat) (o : List P2) (hs : List (List P2)) (w : World) (h : Plt w a la ah nh o hs) :
    Calls Try.prog 20 #[.agg #[.slice a la ca, .slice ah nh ch]] w fun e W' => ∃ v, e = .returned v ∧ AnsS w.heap.size W'.heap.size W' v (plE o hs) ∧ Below w.heap.size w W' := by
  have B0 : Below w.heap.size w (w.alloc (.cells #[.slice a la ca, .slice ah nh ch] 26)) := (by repeat (first | exact bw_refl _ | assumption | apply bw_drewN | apply bw_drew | apply bw_alloc | refine bw_set ?_ (by simp) _))
  have hlen := plE_len o hs
  cases hv : plV o hs
  · go_enter Try.func20, Try.ntmps20
    go_wp2_with fail
    refine (board_any a ah la ca nh ch o hs _ (h.below B0)).mono ?_
    rw [hv]
    rintro e w1 ⟨p, rfl, J, _⟩
    go_wp2_with fail
    go_ret
    exact ⟨_, rfl, .inl ⟨by unfold plE; rw [hv]; rfl, _, _, rfl⟩, bw_trans B0 J⟩
  · have hE : plE o hs = segsL o ++ hs.flatMap segsL := by unfold plE; rw [hv]; rfl
    go_enter Try.func20, Try.ntmps20
    go_wp2_with fail
    refine (board_any a ah la ca nh ch o hs _ (h.below B0)).mono ?_
    rintro e w1 ⟨p, rfl, J, hR⟩
    obtain ⟨b, xs, rfl, hR, hx⟩ := hR hv
    rw [hv]
    have K1 := bw_trans B0 J
    have hedg := edgR_eq ⟨a, la, ca, o⟩ xs hs hx
    rw [← hE] at hedg
    go_wp2_with fail
    refine (callsIn_wide.1 (ringEdges_in 10 (some ⟨b, 0, none⟩) w1)).mono ?_
    rintro e w2 ⟨rfl, rfl⟩
    have B1 : Below w1.heap.size w1 (w1.alloc (.cells #[.pointer (some ⟨b, 0, none⟩)] 80)) := (by repeat (first | exact bw_refl _ | assumption | apply bw_drewN | apply bw_drew | apply bw_alloc | refine bw_set ?_ (by simp) _))
    have hRN := RingL.ringN (Nat.le_refl _) (RingL.grow B1.size (RingL.below B1 (Nat.le_refl _) hR))
    go_wp2_with fail
    refine (collect_any w1.heap.size (some ⟨b, 0, none⟩) (⟨a, la, ca, o⟩ :: xs) _ (Lies.c1 (Lies.new w1 _ _)) hRN (by rw [hedg]; omega)).mono ?_
    rw [hedg]
    rintro e w3 ⟨v, rfl, ho, J3⟩
    go_wp2_with fail
    go_ret
    have zz := K1.size
    exact ⟨v, rfl, ansS_mono (AnsS.of_owns ho rfl) (by simp; omega), bw_trans K1 (bw_trans B1 J3)⟩
end Go.Proofs.Ythedlopfjlnogaa
namespace Go.Proofs.Ythedlopfjlnogaa
open Go.RowKit Go.Sort

theorem okV_pt {pts : List P2} (h : okV pts = true) {i : Nat} (hi : i < pts.length) : ptB (ptAt pts i).1 (ptAt pts i).2 = true := (sgP_pt (((okV_iff pts).1 h).seg i hi)).1
theorem sCross_raw (a b c : P2) (ha : ptB a.1 a.2 = true) (hb : ptB b.1 b.2 = true) (hc : ptB c.1 c.2 = true) (w : World) :
    Calls Try.prog 79 #[.agg #[.int .i64 a.1, .int .i64 a.2], .agg #[.int .i64 b.1, .int .i64 b.2], .agg #[.int .i64 c.1, .int .i64 c.2]] w fun e w' => e = .returned (.int .i64 (crs a.1 a.2 b.1 b.2 c.1 c.2)) ∧ Below w.heap.size w w' := sCross_any _ _ _ _ _ _ w ha hb hc
theorem fan_bd {pts : List P2} (h : okV pts = true) (k : Nat) (hk : k < pts.length) : -(162 * k) ≤ fan pts k ∧ fan pts k ≤ 162 * k := by
  induction k with
  | zero => simp [fan]
  | succ k ih =>
    have i := ih (by omega)
    cases k with
    | zero => simp [fan]
    | succ k =>
      have e : fan pts (k + 1 + 1) = fan pts (k + 1) + triE pts (k + 1) := rfl
      have b := crs_bd (okV_pt h (i := 0) (by omega)) (okV_pt h (i := k + 1) (by omega)) (okV_pt h (i := k + 1 + 1) hk)
      have b' : -162 ≤ triE pts (k + 1) ∧ triE pts (k + 1) ≤ 162 := b
      rw [e]; omega
end Go.Proofs.Ythedlopfjlnogaa
namespace Go.Proofs.Ythedlopfjlnogaa
open Go.RowKit Go.Sort

theorem sPt_raw (p : P2) (w : World) : Calls Try.prog 19 #[.agg #[.int .i64 p.1, .int .i64 p.2]] w fun e w' => e = .returned (.bool (ptB p.1 p.2)) ∧ Below w.heap.size w w' := sPt_any _ _ w
theorem inI_on {pts : List P2} {p : P2} {i : Nat} (hi : i < pts.length) (h : onE pts p i = true) : inI pts p = 0 := by
  unfold inI; rw [if_pos]; rw [List.any_eq_true]; exact ⟨i, List.mem_range.2 hi, h⟩
theorem inI_off {pts : List P2} {p : P2} (h : ∀ i, i < pts.length → onE pts p i = false) : inI pts p = whereK pts p pts.length := by
  unfold inI; rw [if_neg]; rw [List.any_eq_true]; rintro ⟨i, hi, e⟩; rw [h i (List.mem_range.1 hi)] at e; cases e
theorem regrow_none {W W' : World} {g j : Nat} {x0 x1 x2 x3 : Value} (h : W.cell? ⟨g, j * 4, none⟩ = some x0 ∧ W.cell? ⟨g, j * 4 + 1, none⟩ = some x1 ∧ W.cell? ⟨g, j * 4 + 2, none⟩ = some x2 ∧ W.cell? ⟨g, j * 4 + 3, none⟩ = some x3) (J : Below W.heap.size W W') (hg : g < W.heap.size) :
    W'.cell? ⟨g, j * 4, none⟩ = some x0 ∧ W'.cell? ⟨g, j * 4 + 1, none⟩ = some x1 ∧ W'.cell? ⟨g, j * 4 + 2, none⟩ = some x2 ∧ W'.cell? ⟨g, j * 4 + 3, none⟩ = some x3 :=
  ⟨(J.cell (p := ⟨g, j * 4, none⟩) hg).trans h.1, (J.cell (p := ⟨g, j * 4 + 1, none⟩) hg).trans h.2.1, (J.cell (p := ⟨g, j * 4 + 2, none⟩) hg).trans h.2.2.1, (J.cell (p := ⟨g, j * 4 + 3, none⟩) hg).trans h.2.2.2⟩
set_option maxRecDepth 100000 in
set_option maxHeartbeats 8000000 in
theorem sInI_ok (b off len cap : Nat) (pts : List P2) (p : P2) (hok : okV pts = true) (hp : ptB p.1 p.2 = true) (hl : pts.length = len) (w : World) (hb : b < w.heap.size)
    (hc : ∀ j, j < len → w.cell? ⟨b, off + j * 2, none⟩ = some (.int .i64 (ptAt pts j).1) ∧ w.cell? ⟨b, off + j * 2 + 1, none⟩ = some (.int .i64 (ptAt pts j).2)) :
    Calls Try.prog 44 #[.slice (some ⟨b, off, none⟩) len cap, .agg #[.int .i64 p.1, .int .i64 p.2]] w fun e w' => e = .returned (.int .i64 (inI pts p)) ∧ Below w.heap.size w w' := by
  have h3 := ((okV_iff pts).1 hok).lo
  have h8 := ((okV_iff pts).1 hok).hi
  have hS : Hid (∀ i, i < len → sgP (ptAt pts i) (ptAt pts (nxt pts i)) = true) := fun i hi => ((okV_iff pts).1 hok).seg i (by omega)
  have hl8 : 3 ≤ len ∧ len ≤ 8 := by omega
  have hcall := sEdges_ok b off len cap pts (w.alloc (.cells #[.int .i64 p.1, .int .i64 p.2] 33)) hl (by omega) (by omega) (by simp; omega) (fun j hj => by
    have := hc j hj
    exact ⟨(((Below.refl _ w).alloc (Nat.le_refl _) _).cell (p := ⟨b, off + j * 2, none⟩) hb).trans this.1, (((Below.refl _ w).alloc (Nat.le_refl _) _).cell (p := ⟨b, off + j * 2 + 1, none⟩) hb).trans this.2⟩)
  have LP : Lies w.heap.size #[.int .i64 p.1, .int .i64 p.2] 33 (w.alloc (.cells #[.int .i64 p.1, .int .i64 p.2] 33)) := Lies.new w _ _
  have HL : Hid (pts.length = len) := hl
  clear hok h3 h8 hl hc
  go_enter Try.func44, Try.ntmps44
  go_wp2_with (go_at_call 68; refine hcall.mono ?_; rintro e w1 ⟨v, rfl, hown, J0⟩)
  have hR : ∃ g cap', v = .slice (some ⟨g, 0, none⟩) len cap' ∧ g < w1.heap.size ∧ SegRow w1 g len pts := by
    have hown' := hown
    rcases hown.2 with ⟨_, h0⟩ | ⟨g, cap', cur, rfl, hg1, hg2, _⟩
    · omega
    · exact ⟨g, cap', rfl, (Array.getElem?_eq_some_iff.1 hg2).1, SegRow.of_owns hown'⟩
  obtain ⟨g, cap', rfl, hg, hR⟩ := hR
  replace LP := LP.below J0
  have B1 : Below w.heap.size w w1 := bw_trans (by repeat (first | exact bw_refl _ | assumption | apply bw_drewN | apply bw_drew | apply bw_alloc | refine bw_set ?_ (by simp) _)) J0
  clear hown hcall J0
  go_wp2_with fail
  go_loopw [5, 7] (fun s i wr => ∃ k : Nat, k ≤ len ∧ i = .int .i64 k ∧ s = .int .i64 (whereK pts p k) ∧ (∀ j, j < k → onE pts p j = false) ∧ Below w1.heap.size w1 wr) (fun _ i _ => len - (intOf i).toNat)
  case atStart => exact ⟨0, by omega, rfl, rfl, fun j hj => by omega, bw_refl _⟩
  case round =>
    obtain ⟨k, hk, rfl, rfl, hoff, hnx⟩ := hrel
    by_cases hlt : k < len
    case neg =>
      obtain rfl : k = len := by omega
      have e1 : Hid (inI pts p = whereK pts p k) := by change _ = _; rw [inI_off (by rw [HL.out]; exact hoff), HL.out]
      go_wp2_with fail
      go_ret
      exact ⟨ret_int e1.out.symm, bw_trans B1 hnx⟩
    case pos =>
      have sk := hS.out k hlt
      obtain ⟨pa, pb⟩ := sgP_pt sk
      have i0 : (0 : Int) ≤ (k : Int) := Int.natCast_nonneg _
      have i1 : (k : Int) < (len : Int) := by omega
      have q1 : IntKind.i64.wrap ((k : Int) + 1) = (k : Int) + 1 := wrap_small (by omega) (by omega)
      have hRk := (hR.below hnx hg) k hlt
      obtain ⟨d0, d1, d2, d3⟩ := regrow4 hRk
      have LPk := LP.below hnx
      obtain ⟨u0, u1⟩ := reg_2 LPk
      have wpm := whereK_pm pts p k
      cases hon : onE pts p k
      case true =>
        have e1 : Hid (inI pts p = 0) := inI_on (by rw [HL.out]; exact hlt) hon
        have X1 : Hid (∀ w, Calls Try.prog 77 #[.agg #[.int .i64 (ptAt pts k).1, .int .i64 (ptAt pts k).2, .int .i64 (ptAt pts (nxt pts k)).1, .int .i64 (ptAt pts (nxt pts k)).2], .agg #[.int .i64 p.1, .int .i64 p.2]] w fun e w' => e = .returned (.bool true) ∧ Below w.heap.size w w') := fun w => by
          have := sHas_raw _ _ _ sk hp w; unfold onE at hon; rwa [hon] at this
        go_wp2_with fail
        refine wp_region_quiet_below (by kernel_rfl) (by kernel_rfl) ?_
        repeat (first | go_big_quiet_step (first | (go_at_call 77; with_reducible exact Calls.regrown_of (X1.out _))))
        refine wpQuiet_nil ?_
        intro _ hw'
        obtain ⟨⟨dq, osq⟩, hw''⟩ := hw'
        subst hw''
        have J := below_regrown wr dq osq
        generalize grow (redrawn wr dq) osq = w2 at J ⊢
        go_wp2_with fail
        go_ret
        exact ⟨ret_int e1.out.symm, bw_trans (bw_trans B1 hnx) J⟩
      case false =>
        have X1 : Hid (∀ w, Calls Try.prog 77 #[.agg #[.int .i64 (ptAt pts k).1, .int .i64 (ptAt pts k).2, .int .i64 (ptAt pts (nxt pts k)).1, .int .i64 (ptAt pts (nxt pts k)).2], .agg #[.int .i64 p.1, .int .i64 p.2]] w fun e w' => e = .returned (.bool false) ∧ Below w.heap.size w w') := fun w => by
          have := sHas_raw _ _ _ sk hp w; unfold onE at hon; rwa [hon] at this
        have step : ∀ (s : Int) (X : World), Below w1.heap.size w1 X → whereK pts p (k + 1) = s → ∃ k' : Nat, k' ≤ len ∧ Value.int .i64 ((k : Int) + 1) = .int .i64 k' ∧ Value.int .i64 s = .int .i64 (whereK pts p k') ∧ (∀ j, j < k' → onE pts p j = false) ∧ Below w1.heap.size w1 X :=
          fun s X hX hs => ⟨k + 1, by omega, by simp, by rw [hs], fun j hj => by rcases Nat.lt_or_ge j k with h | h; exact hoff j h; obtain rfl : j = k := (by omega); exact hon, hX⟩
        have hyes : passP (ptAt pts k) (ptAt pts (nxt pts k)) p = true → Hid (whereK pts p (k + 1) = - whereK pts p k) := fun h => by change _ = _; simp only [whereK]; unfold passE; rw [h]; rfl
        have hno : passP (ptAt pts k) (ptAt pts (nxt pts k)) p = false → Hid (whereK pts p (k + 1) = whereK pts p k) := fun h => by change _ = _; simp only [whereK]; unfold passE; rw [h]; rfl
        clear hon hoff
        generalize whereK pts p k = u at *
        generalize ptAt pts k = a at *
        generalize ptAt pts (nxt pts k) = b at *
        have nu : IntKind.i64.wrap (-u) = -u := wrap_small (by omega) (by omega)
        go_wp2_with fail
        refine wp_region_quiet_below (by kernel_rfl) (by kernel_rfl) ?_
        repeat (first | go_big_quiet_step (first | (go_at_call 77; with_reducible exact Calls.regrown_of (X1.out _))))
        refine wpQuiet_nil ?_
        intro _ hw'
        obtain ⟨⟨dq, osq⟩, hw''⟩ := hw'
        subst hw''
        have J := below_regrown wr dq osq
        generalize grow (redrawn wr dq) osq = w2 at J ⊢
        have hn2 := bw_trans hnx J
        have hR2 := regrow_none hRk J (by have := hnx.size; omega)
        obtain ⟨d0', d1', d2', d3'⟩ := hR2
        obtain ⟨p0, p1⟩ := blk_2 (LPk.below J)
        have zg : g < w2.heap.size := by have := hn2.size; omega
        have zp := (LPk.below J).lt
        clear J d0 d1 d2 d3 u0 u1 hRk LPk X1
        by_cases hgt : b.2 < a.2
        · have e1 : Hid (passP a b p = (decide (b.2 ≤ p.2) && decide (p.2 < a.2) && decide (0 < crs b.1 b.2 a.1 a.2 p.1 p.2))) := by
            change _ = _; unfold passP; rw [if_pos hgt]
          by_cases c1 : b.2 ≤ p.2
          · by_cases c2 : p.2 < a.2
            · by_cases c3 : 0 < crs b.1 b.2 a.1 a.2 p.1 p.2
              · have e2 := hyes (by rw [e1.out, decide_eq_true c1, decide_eq_true c2, decide_eq_true c3]; rfl)
                go_wp2_with (go_at_call 79; refine (sCross_raw _ _ _ pb pa hp _).mono ?_; rintro e w3 ⟨rfl, J⟩)
                go_roundw
                case rel => exact step _ _ (bw_trans (by repeat (first | exact hn2 | apply bw_alloc | refine bw_set ?_ (by simp; omega) _)) J) e2.out
                case measure => simp [intOf]; omega
              · have e2 := hno (by rw [e1.out, decide_eq_true c1, decide_eq_true c2, decide_eq_false c3]; rfl)
                go_wp2_with (go_at_call 79; refine (sCross_raw _ _ _ pb pa hp _).mono ?_; rintro e w3 ⟨rfl, J⟩)
                go_roundw
                case rel => exact step _ _ (bw_trans (by repeat (first | exact hn2 | apply bw_alloc | refine bw_set ?_ (by simp; omega) _)) J) e2.out
                case measure => simp [intOf]; omega
            · have e2 := hno (by rw [e1.out, decide_eq_true c1, decide_eq_false c2]; rfl)
              go_wp2_with fail
              go_roundw
              case rel => exact step _ _ (by repeat (first | exact hn2 | apply bw_alloc | refine bw_set ?_ (by simp; omega) _)) e2.out
              case measure => simp [intOf]; omega
          · have e2 := hno (by rw [e1.out, decide_eq_false c1]; rfl)
            go_wp2_with fail
            go_roundw
            case rel => exact step _ _ (by repeat (first | exact hn2 | apply bw_alloc | refine bw_set ?_ (by simp; omega) _)) e2.out
            case measure => simp [intOf]; omega
        · have e1 : Hid (passP a b p = (decide (a.2 ≤ p.2) && decide (p.2 < b.2) && decide (0 < crs a.1 a.2 b.1 b.2 p.1 p.2))) := by
            change _ = _; unfold passP; rw [if_neg hgt]
          by_cases c1 : a.2 ≤ p.2
          · by_cases c2 : p.2 < b.2
            · by_cases c3 : 0 < crs a.1 a.2 b.1 b.2 p.1 p.2
              · have e2 := hyes (by rw [e1.out, decide_eq_true c1, decide_eq_true c2, decide_eq_true c3]; rfl)
                go_wp2_with (go_at_call 79; refine (sCross_raw _ _ _ pa pb hp _).mono ?_; rintro e w3 ⟨rfl, J⟩)
                go_roundw
                case rel => exact step _ _ (bw_trans (by repeat (first | exact hn2 | apply bw_alloc | refine bw_set ?_ (by simp; omega) _)) J) e2.out
                case measure => simp [intOf]; omega
              · have e2 := hno (by rw [e1.out, decide_eq_true c1, decide_eq_true c2, decide_eq_false c3]; rfl)
                go_wp2_with (go_at_call 79; refine (sCross_raw _ _ _ pa pb hp _).mono ?_; rintro e w3 ⟨rfl, J⟩)
                go_roundw
                case rel => exact step _ _ (bw_trans (by repeat (first | exact hn2 | apply bw_alloc | refine bw_set ?_ (by simp; omega) _)) J) e2.out
                case measure => simp [intOf]; omega
            · have e2 := hno (by rw [e1.out, decide_eq_true c1, decide_eq_false c2]; rfl)
              go_wp2_with fail
              go_roundw
              case rel => exact step _ _ (by repeat (first | exact hn2 | apply bw_alloc | refine bw_set ?_ (by simp; omega) _)) e2.out
              case measure => simp [intOf]; omega
          · have e2 := hno (by rw [e1.out, decide_eq_false c1]; rfl)
            go_wp2_with fail
            go_roundw
            case rel => exact step _ _ (by repeat (first | exact hn2 | apply bw_alloc | refine bw_set ?_ (by simp; omega) _)) e2.out
            case measure => simp [intOf]; omega
end Go.Proofs.Ythedlopfjlnogaa
namespace Go.Proofs.Ythedlopfjlnogaa
open Go.RowKit Go.Sort

set_option maxRecDepth 100000 in
set_option maxHeartbeats 8000000 in
theorem sApart_ok (b1 off1 len1 cap1 b2 off2 len2 cap2 : Nat) (l1 l2 : List P2) (ok1 : okV l1 = true) (ok2 : okV l2 = true) (hl1 : l1.length = len1) (hl2 : l2.length = len2) (w : World) (hb1 : b1 < w.heap.size) (hb2 : b2 < w.heap.size)
    (hc1 : ∀ j, j < len1 → w.cell? ⟨b1, off1 + j * 2, none⟩ = some (.int .i64 (ptAt l1 j).1) ∧ w.cell? ⟨b1, off1 + j * 2 + 1, none⟩ = some (.int .i64 (ptAt l1 j).2))
    (hc2 : ∀ j, j < len2 → w.cell? ⟨b2, off2 + j * 2, none⟩ = some (.int .i64 (ptAt l2 j).1) ∧ w.cell? ⟨b2, off2 + j * 2 + 1, none⟩ = some (.int .i64 (ptAt l2 j).2)) :
    Calls Try.prog 45 #[.slice (some ⟨b1, off1, none⟩) len1 cap1, .slice (some ⟨b2, off2, none⟩) len2 cap2] w fun e w' => e = .returned (.bool (apL l1 l2)) ∧ Below w.heap.size w w' := by
  have h31 := okV_pos ok1
  have h32 := okV_pos ok2
  have S1 : Hid (∀ i, i < len1 → sgP (ptAt l1 i) (ptAt l1 (nxt l1 i)) = true) := fun i hi => ((okV_iff l1).1 ok1).seg i (by omega)
  have S2 : Hid (∀ i, i < len2 → sgP (ptAt l2 i) (ptAt l2 (nxt l2 i)) = true) := fun i hi => ((okV_iff l2).1 ok2).seg i (by omega)
  have L1 : Hid (l1.length = len1) := hl1
  have L2 : Hid (l2.length = len2) := hl2
  have b1l : 3 ≤ len1 ∧ len1 ≤ 8 := by omega
  have b2l : 3 ≤ len2 ∧ len2 ≤ 8 := by omega
  clear ok1 ok2 h31 h32 hl1 hl2
  go_enter Try.func45, Try.ntmps45
  go_wp2_with fail
  refine (sEdges_ok b1 off1 len1 cap1 l1 w L1 (by omega) (by omega) hb1 hc1).mono ?_
  rintro e w1 ⟨v1, rfl, hown1, J1⟩
  have hR : ∃ g cap', v1 = .slice (some ⟨g, 0, none⟩) len1 cap' ∧ g < w1.heap.size ∧ SegRow w1 g len1 l1 := by
    have hown' := hown1
    rcases hown1.2 with ⟨_, h0⟩ | ⟨g, cap', cur, rfl, hg1, hg2, _⟩
    · omega
    · exact ⟨g, cap', rfl, (Array.getElem?_eq_some_iff.1 hg2).1, SegRow.of_owns hown'⟩
  obtain ⟨g1, c1, rfl, hg1, R1⟩ := hR
  clear hown1
  go_wp2_with fail
  refine (sEdges_ok b2 off2 len2 cap2 l2 w1 L2 (by omega) (by omega) (by have := J1.size; omega) (fun j hj => ⟨(J1.cell (p := ⟨b2, off2 + j * 2, none⟩) hb2).trans (hc2 j hj).1, (J1.cell (p := ⟨b2, off2 + j * 2 + 1, none⟩) hb2).trans (hc2 j hj).2⟩)).mono ?_
  rintro e w2 ⟨v2, rfl, hown2, J2⟩
  have hR : ∃ g cap', v2 = .slice (some ⟨g, 0, none⟩) len2 cap' ∧ g < w2.heap.size ∧ SegRow w2 g len2 l2 := by
    have hown' := hown2
    rcases hown2.2 with ⟨_, h0⟩ | ⟨g, cap', cur, rfl, hg1, hg2, _⟩
    · omega
    · exact ⟨g, cap', rfl, (Array.getElem?_eq_some_iff.1 hg2).1, SegRow.of_owns hown'⟩
  obtain ⟨g2, c2, rfl, hg2, R2⟩ := hR
  replace R1 := R1.below J2 hg1
  have hg1' : g1 < w2.heap.size := by have := J2.size; omega
  have K2 := bw_trans J1 J2
  clear hown2 J1 J2 hc1 hc2
  go_wp2_with fail
  go_loopw [7] (fun i wr => ∃ k : Nat, k ≤ len1 ∧ i = .int .i64 k ∧ (∀ j, j < k → ∀ q, q < len2 → meetP (ptAt l1 j) (ptAt l1 (nxt l1 j)) (ptAt l2 q) (ptAt l2 (nxt l2 q)) = false) ∧ Below w2.heap.size w2 wr) (fun i _ => len1 - (intOf i).toNat)
  case atStart => exact ⟨0, Nat.zero_le _, rfl, fun j hj => by omega, bw_refl _⟩
  case round =>
    obtain ⟨i, hi, rfl, hall, hnx⟩ := hrel
    by_cases hlt : i < len1
    case neg =>
      obtain rfl : i = len1 := by omega
      have e1 : Hid (apL l1 l2 = true) := (apL_iff l1 l2).2 (fun j hj q hq => hall j (by rw [L1.out] at hj; exact hj) q (by rw [L2.out] at hq; exact hq))
      clear hall
      go_wp2_with fail
      go_ret
      exact ⟨ret_bool e1.out.symm, bw_trans K2 hnx⟩
    case pos =>
      have si := S1.out i hlt
      go_wp2_with fail
      go_loopw [8] (fun k wr => ∃ k' : Nat, k' ≤ len2 ∧ k = .int .i64 k' ∧ (∀ q, q < k' → meetP (ptAt l1 i) (ptAt l1 (nxt l1 i)) (ptAt l2 q) (ptAt l2 (nxt l2 q)) = false) ∧ Below w2.heap.size w2 wr) (fun k _ => len2 - (intOf k).toNat)
      case atStart => exact ⟨0, Nat.zero_le _, rfl, fun j hj => by omega, hnx⟩
      case round =>
        obtain ⟨k, hk, rfl, hrow, hny⟩ := hrel
        by_cases hlt2 : k < len2
        case neg =>
          obtain rfl : k = len2 := by omega
          go_wp2_with fail
          go_roundw
          case rel => exact ⟨i + 1, by omega, by simp, fun j hj q hq => by rcases Nat.lt_or_ge j i with h | h; exact hall j h q hq; obtain rfl : j = i := (by omega); exact hrow q hq, hny⟩
          case measure => simp [intOf]; omega
        case pos =>
          have sk := S2.out k hlt2
          have i0 : (0 : Int) ≤ (i : Int) := Int.natCast_nonneg _
          have i1 : (i : Int) < (len1 : Int) := by omega
          have j0 : (0 : Int) ≤ (k : Int) := Int.natCast_nonneg _
          have j1 : (k : Int) < (len2 : Int) := by omega
          obtain ⟨d0, d1, d2, d3⟩ := regrow4 ((R1.below hny hg1') i hlt)
          obtain ⟨f0, f1, f2, f3⟩ := regrow4 ((R2.below hny hg2) k hlt2)
          cases hme : meetP (ptAt l1 i) (ptAt l1 (nxt l1 i)) (ptAt l2 k) (ptAt l2 (nxt l2 k))
          · have X1 : Hid (∀ w, Calls Try.prog 78 #[.agg #[.int .i64 (ptAt l1 i).1, .int .i64 (ptAt l1 i).2, .int .i64 (ptAt l1 (nxt l1 i)).1, .int .i64 (ptAt l1 (nxt l1 i)).2], .agg #[.int .i64 (ptAt l2 k).1, .int .i64 (ptAt l2 k).2, .int .i64 (ptAt l2 (nxt l2 k)).1, .int .i64 (ptAt l2 (nxt l2 k)).2]] w fun e w' => e = .returned (.bool false) ∧ Below w.heap.size w w') := fun w => by
              have := sMeet_raw _ _ _ _ si sk w; rwa [hme] at this
            have hrow' : Hid (∀ q, q < k + 1 → meetP (ptAt l1 i) (ptAt l1 (nxt l1 i)) (ptAt l2 q) (ptAt l2 (nxt l2 q)) = false) := fun q hq => by rcases Nat.lt_or_ge q k with h | h; exact hrow q h; obtain rfl : q = k := (by omega); exact hme
            clear hrow hme
            go_wp2_with fail
            refine wp_region_quiet_below (by kernel_rfl) (by kernel_rfl) ?_
            repeat (first | go_big_quiet_step (first | (go_at_call 78; with_reducible exact Calls.regrown_of (X1.out _))))
            refine wpQuiet_nil ?_
            intro _ hw'
            obtain ⟨⟨dq, osq⟩, hw''⟩ := hw'
            subst hw''
            have J := below_regrown wr dq osq
            generalize grow (redrawn wr dq) osq = w5 at J ⊢
            go_wp2_with fail
            go_roundw
            case rel => exact ⟨k + 1, by omega, by simp, hrow'.out, bw_trans hny J⟩
            case measure => simp [intOf]; omega
          · have X1 : Hid (∀ w, Calls Try.prog 78 #[.agg #[.int .i64 (ptAt l1 i).1, .int .i64 (ptAt l1 i).2, .int .i64 (ptAt l1 (nxt l1 i)).1, .int .i64 (ptAt l1 (nxt l1 i)).2], .agg #[.int .i64 (ptAt l2 k).1, .int .i64 (ptAt l2 k).2, .int .i64 (ptAt l2 (nxt l2 k)).1, .int .i64 (ptAt l2 (nxt l2 k)).2]] w fun e w' => e = .returned (.bool true) ∧ Below w.heap.size w w') := fun w => by
              have := sMeet_raw _ _ _ _ si sk w; rwa [hme] at this
            have e1 : Hid (apL l1 l2 = false) := by
              change _ = _
              rw [Bool.eq_false_iff]; intro h
              rw [(apL_iff l1 l2).1 h i (by rw [L1.out]; exact hlt) k (by rw [L2.out]; exact hlt2)] at hme; cases hme
            clear hrow hme hall
            go_wp2_with fail
            refine wp_region_quiet_below (by kernel_rfl) (by kernel_rfl) ?_
            repeat (first | go_big_quiet_step (first | (go_at_call 78; with_reducible exact Calls.regrown_of (X1.out _))))
            refine wpQuiet_nil ?_
            intro _ hw'
            obtain ⟨⟨dq, osq⟩, hw''⟩ := hw'
            subst hw''
            have J := below_regrown wr dq osq
            generalize grow (redrawn wr dq) osq = w5 at J ⊢
            go_wp2_with fail
            go_ret
            exact ⟨ret_bool e1.out.symm, bw_trans (bw_trans K2 hny) J⟩
end Go.Proofs.Ythedlopfjlnogaa
namespace Go.Proofs.Ythedlopfjlnogaa
open Go.RowKit Go.Sort

theorem sApart_pts (a1 a2 : Option Addr) (len1 cap1 len2 cap2 : Nat) (l1 l2 : List P2) (ok1 : okV l1 = true) (ok2 : okV l2 = true) (w : World) (hP1 : Pts w.heap.size w a1 len1 l1) (hP2 : Pts w.heap.size w a2 len2 l2) :
    Calls Try.prog 45 #[.slice a1 len1 cap1, .slice a2 len2 cap2] w fun e w' => e = .returned (.bool (apL l1 l2)) ∧ Below w.heap.size w w' := by
  have h1 := okV_pos ok1
  have h2 := okV_pos ok2
  obtain ⟨e1, c1⟩ := hP1
  obtain ⟨e2, c2⟩ := hP2
  rcases c1 with h0 | ⟨b1, off1, rfl, hb1, hc1⟩
  · omega
  rcases c2 with h0 | ⟨b2, off2, rfl, hb2, hc2⟩
  · omega
  exact sApart_ok b1 off1 len1 cap1 b2 off2 len2 cap2 l1 l2 ok1 ok2 e1 e2 w hb1 hb2 hc1 hc2
theorem sInI_pts (a1 : Option Addr) (len1 cap1 : Nat) (l1 : List P2) (p : P2) (ok1 : okV l1 = true) (hp : ptB p.1 p.2 = true) (w : World) (hP1 : Pts w.heap.size w a1 len1 l1) :
    Calls Try.prog 44 #[.slice a1 len1 cap1, .agg #[.int .i64 p.1, .int .i64 p.2]] w fun e w' => e = .returned (.int .i64 (inI l1 p)) ∧ Below w.heap.size w w' := by
  have h1 := okV_pos ok1
  obtain ⟨e1, c1⟩ := hP1
  rcases c1 with h0 | ⟨b1, off1, rfl, hb1, hc1⟩
  · omega
  exact sInI_ok b1 off1 len1 cap1 l1 p ok1 hp e1 w hb1 hc1
/-- So many holes lie as they must. -/
def Upto (o : List P2) (hs : List (List P2)) (k : Nat) : Prop := ∀ i, i < k → okV (hs[i]?.getD []) = true ∧ arB o (hs[i]?.getD []) = true ∧ ∀ j, j < i → beB (hs[i]?.getD []) (hs[j]?.getD []) = true
theorem upto_yes {o : List P2} {hs : List (List P2)} (h0 : okV o = true) (hn : hs.length ≤ 2) (h : Upto o hs hs.length) : plV o hs = true := by
  refine (plV_iff o hs).2 ⟨h0, hn, ?_, ?_, ?_⟩
  · intro x hx
    obtain ⟨i, hi, rfl⟩ := List.getElem_of_mem hx
    have := (h i hi).1
    rwa [List.getElem?_eq_getElem hi, Option.getD_some] at this
  · intro x hx
    obtain ⟨i, hi, rfl⟩ := List.getElem_of_mem hx
    have := (h i hi).2.1
    rwa [List.getElem?_eq_getElem hi, Option.getD_some] at this
  · intro i k hik hk
    rw [beB_comm]; exact (h k hk).2.2 i hik
theorem upto_all' {o : List P2} {hs : List (List P2)} (h : plV o hs = true) : Upto o hs hs.length := by
  have L := (plV_iff o hs).1 h
  intro i hi
  have hm : hs[i]?.getD [] ∈ hs := by rw [List.getElem?_eq_getElem hi, Option.getD_some]; exact List.getElem_mem hi
  exact ⟨L.ok _ hm, L.ar _ hm, fun j hj => by rw [beB_comm]; exact L.be j i hj hi⟩
set_option maxRecDepth 100000 in
set_option maxHeartbeats 8000000 in
theorem sPlateOk_any (a ah : Option Addr) (la ca nh ch : Nat) (o : List P2) (hs : List (List P2)) (w : World) (h : Plt w a la ah nh o hs) :
    Calls Try.prog 12 #[.agg #[.slice a la ca, .slice ah nh ch]] w fun e W' => e = .returned (.bool (plV o hs)) ∧ Below w.heap.size w W' := by
  obtain ⟨W, hW, BW, T⟩ : ∃ W, W = w.alloc (.cells #[.slice a la ca, .slice ah nh ch] 26) ∧ Below w.heap.size w W ∧ W.heap[w.heap.size]? = some (.cells #[.slice a la ca, .slice ah nh ch] 26) := ⟨_, rfl, (by repeat (first | exact bw_refl _ | assumption | apply bw_drewN | apply bw_drew | apply bw_alloc | refine bw_set ?_ (by simp) _)), heap_new _ _⟩
  replace h := h.below BW
  have hla := h.1
  have hP := h.2.1
  have hcall := sOk_any a la ca o hla W hP
  obtain ⟨t0, t1⟩ := blk_2 T
  have zT := blk_lt T
  cases hok : okV o
  · rw [hok] at hcall
    have e1 : Hid (plV o hs = false) := by
      change _ = _; rw [Bool.eq_false_iff]; intro hc
      rw [((plV_iff o hs).1 hc).out] at hok; cases hok
    go_enter Try.func12, Try.ntmps12
    go_upto_region 1 with fail
    rw [← hW]
    clear hW
    go_wp2_with (go_at_call 43; refine hcall.mono ?_; rintro e v ⟨rfl, J⟩)
    go_ret
    exact ⟨ret_bool e1.out.symm, bw_trans BW J⟩
  rw [hok] at hcall
  by_cases hb : 2 < nh
  · have hb' : (2 : Int) < (nh : Int) := by omega
    have e1 : Hid (plV o hs = false) := by
      change _ = _; rw [Bool.eq_false_iff]; intro hc
      have := plV_len hc; have := h.2.2.1; omega
    go_enter Try.func12, Try.ntmps12
    go_upto_region 1 with fail
    rw [← hW]
    clear hW
    go_wp2_with (go_at_call 43; refine hcall.mono ?_; rintro e v ⟨rfl, J⟩; obtain ⟨t0', t1'⟩ := blk_2 (keep J T))
    go_ret
    exact ⟨ret_bool e1.out.symm, bw_trans BW J⟩
  have hb' : ¬ (2 : Int) < (nh : Int) := by omega
  obtain ⟨_, _, hlen, A, L, C, hS, hH⟩ := h
  have HL : Hid (hs.length = nh) := hlen
  have hfin : Hid (Upto o hs nh → plV o hs = true) := fun hu => upto_yes hok (by omega) (by rw [hlen]; exact hu)
  have hno : Hid (∀ i, i < nh → (okV (hs[i]?.getD []) = true → arB o (hs[i]?.getD []) = true → ∃ j, j < i ∧ beB (hs[i]?.getD []) (hs[j]?.getD []) = false) → plV o hs = false) := fun i hi hc => by
    rw [Bool.eq_false_iff]; intro hv
    have hu := upto_all' hv i (by omega)
    obtain ⟨j, hj, e⟩ := hc hu.1 hu.2.1
    rw [hu.2.2 j hj] at e; cases e
  have hokH : Hid (okV o = true) := hok
  have hPt : Hid (∀ l : List P2, okV l = true → ptB (ptAt l 0).1 (ptAt l 0).2 = true ∧ 3 ≤ l.length) := fun l hl => ⟨by have := okV_pos hl; exact (sgP_pt (((okV_iff l).1 hl).seg 0 (by omega))).1, (okV_pos hl).1⟩
  clear hlen hok
  go_enter Try.func12, Try.ntmps12
  go_upto_region 1 with fail
  rw [← hW]
  clear hW
  go_wp2_with (go_at_call 43; refine hcall.mono ?_; rintro e v ⟨rfl, J⟩; obtain ⟨t0', t1'⟩ := blk_2 (keep J T))
  replace T := keep J T
  replace hP := (hP.below J).grow J.size
  replace hS := (hS.below J).grow J.size
  replace hH : ∀ j, j < nh → L j ≤ 1048576 ∧ Pts v.heap.size v (A j) (L j) (hs[j]?.getD []) := fun j hj => ⟨(hH j hj).1, ((hH j hj).2.below J).grow J.size⟩
  have K := bw_trans BW J
  clear hcall t0 t1 t0' t1' zT J
  go_loopw [3] (fun i wr => ∃ k : Nat, k ≤ nh ∧ i = .int .i64 k ∧ Upto o hs k ∧ Below v.heap.size v wr) (fun i _ => nh - (intOf i).toNat)
  case atStart => exact ⟨0, Nat.zero_le _, rfl, fun i hi => by omega, bw_refl _⟩
  case round =>
    obtain ⟨i, hi, rfl, hu, hnx⟩ := hrel
    obtain ⟨t0, t1⟩ := blk_2 (keep hnx T)
    have zT := blk_lt (keep hnx T)
    by_cases hlt : i < nh
    case neg =>
      obtain rfl : i = nh := by omega
      have e1 : Hid (plV o hs = true) := hfin.out hu
      clear hu
      go_wp2_with fail
      go_ret
      exact ⟨ret_bool e1.out.symm, bw_trans K hnx⟩
    case pos =>
      rcases hS.below hnx with h0 | ⟨b, off, rfl, hbl, hcs⟩
      · omega
      have c0 := hcs i hlt
      have i0 : (0 : Int) ≤ (i : Int) := Int.natCast_nonneg _
      have i1 : (i : Int) < (nh : Int) := by omega
      obtain ⟨hLi, hPi⟩ := hH i hlt
      have hPw := (hP.below hnx).grow hnx.size
      have hPiw := (hPi.below hnx).grow hnx.size
      have HO : Hid (∀ d os, Calls Try.prog 43 #[.slice (A i) (L i) (C i)] (grow (redrawn wr d) os) fun e W' => e = .returned (.bool (okV (hs[i]?.getD []))) ∧ Below (grow (redrawn wr d) os).heap.size (grow (redrawn wr d) os) W') := fun d os =>
        sOk_any (A i) (L i) (C i) _ hLi _ ((hPiw.below (below_regrown wr d os)).grow (below_regrown wr d os).size)
      obtain ⟨hh, hhe⟩ : ∃ hh, hs[i]?.getD [] = hh := ⟨_, rfl⟩
      have HE : Hid (hs[i]?.getD [] = hh) := hhe
      rw [hhe] at HO hPi hPiw
      have hnoi := hno.out i hlt
      rw [hhe] at hnoi
      clear hhe
      obtain ⟨u0, u1⟩ := reg_2 (keep hnx T)
      have c0r := cell_regrown c0
      cases hokh : okV hh
      · have e1 : Hid (plV o hs = false) := hnoi (fun e => by rw [hokh] at e; cases e)
        rw [hokh] at HO
        clear hu hnoi
        go_wp2_with fail
        refine wp_region_quiet_below (by kernel_rfl) (by kernel_rfl) ?_
        repeat (first | go_big_quiet_step (first | (go_at_call 43; with_reducible exact Calls.regrown_of (HO.out _ _))))
        refine wpQuiet_nil ?_
        intro _ hw'
        obtain ⟨⟨dq, osq⟩, hw''⟩ := hw'
        subst hw''
        have J := below_regrown wr dq osq
        generalize grow (redrawn wr dq) osq = v2 at J ⊢
        go_wp2_with fail
        go_ret
        exact ⟨ret_bool e1.out.symm, bw_trans (bw_trans K hnx) J⟩
      rw [hokh] at HO
      have hpt := hPt.out hh hokh
      have HI : Hid (∀ d os, Calls Try.prog 44 #[.slice a la ca, .agg #[.int .i64 (ptAt hh 0).1, .int .i64 (ptAt hh 0).2]] (grow (redrawn wr d) os) fun e W' => e = .returned (.int .i64 (inI o (ptAt hh 0))) ∧ Below (grow (redrawn wr d) os).heap.size (grow (redrawn wr d) os) W') := fun d os =>
        sInI_pts a la ca o (ptAt hh 0) hokH.out hpt.1 _ ((hPw.below (below_regrown wr d os)).grow (below_regrown wr d os).size)
      have HA : Hid (∀ d os, Calls Try.prog 45 #[.slice a la ca, .slice (A i) (L i) (C i)] (grow (redrawn wr d) os) fun e W' => e = .returned (.bool (apL o hh)) ∧ Below (grow (redrawn wr d) os).heap.size (grow (redrawn wr d) os) W') := fun d os =>
        sApart_pts a (A i) la ca (L i) (C i) o hh hokH.out hokh _ ((hPw.below (below_regrown wr d os)).grow (below_regrown wr d os).size) ((hPiw.below (below_regrown wr d os)).grow (below_regrown wr d os).size)
      have hLi3 : 3 ≤ L i := by have := hpt.2; have := hPi.1; omega
      obtain ⟨bi, offi, hai, hbi, f0, f1⟩ := pts_first hPiw (by omega)
      have f0r := cell_regrown f0
      have f1r := cell_regrown f1
      rw [hai] at HO HA c0r
      have p1 : (0 : Int) < (L i : Int) := by omega
      have har : Hid (arB o hh = ((inI o (ptAt hh 0) == 1) && apL o hh)) := by
        change _ = _; unfold arB; rw [Bool.and_comm]; congr 1
      have hq0 : Hid (ptB (ptAt hh 0).1 (ptAt hh 0).2 = true) := hpt.1
      obtain ⟨qq, hqq⟩ : ∃ qq, ptAt hh 0 = qq := ⟨_, rfl⟩
      have HQ : Hid (ptAt hh 0 = qq) := hqq
      rw [hqq] at HI f0r f1r har hq0
      clear hqq f0 f1 hpt
      generalize inI o qq = u at HI har
      cases hu1 : u == 1
      · have hne : (u != 1) = true := by simp only [bne, hu1, Bool.not_false]
        have e1 : Hid (plV o hs = false) := hnoi (fun _ e => by rw [har.out, hu1] at e; cases e)
        clear hu hnoi har
        go_wp2_with fail
        refine wp_region_quiet_below (by kernel_rfl) (by kernel_rfl) ?_
        repeat (first | go_big_quiet_step (first | (go_at_call 43; with_reducible exact Calls.regrown_of (HO.out _ _)) | (go_at_call 44; with_reducible exact Calls.regrown_of (HI.out _ _))))
        refine wpQuiet_nil ?_
        intro _ hw'
        obtain ⟨⟨dq, osq⟩, hw''⟩ := hw'
        subst hw''
        have J := below_regrown wr dq osq
        generalize grow (redrawn wr dq) osq = v2 at J ⊢
        go_wp2_with fail
        go_ret
        exact ⟨ret_bool e1.out.symm, bw_trans (bw_trans K hnx) J⟩
      obtain rfl : u = 1 := by simpa using hu1
      cases hap : apL o hh
      · have e1 : Hid (plV o hs = false) := hnoi (fun _ e => by rw [har.out, hap] at e; cases e)
        rw [hap] at HA
        clear hu hnoi har hap
        go_wp2_with fail
        refine wp_region_quiet_below (by kernel_rfl) (by kernel_rfl) ?_
        repeat (first | go_big_quiet_step (first | (go_at_call 43; with_reducible exact Calls.regrown_of (HO.out _ _)) | (go_at_call 44; with_reducible exact Calls.regrown_of (HI.out _ _)) | (go_at_call 45; with_reducible exact Calls.regrown_of (HA.out _ _))))
        refine wpQuiet_nil ?_
        intro _ hw'
        obtain ⟨⟨dq, osq⟩, hw''⟩ := hw'
        subst hw''
        have J := below_regrown wr dq osq
        generalize grow (redrawn wr dq) osq = v2 at J ⊢
        go_wp2_with fail
        go_ret
        exact ⟨ret_bool e1.out.symm, bw_trans (bw_trans K hnx) J⟩
      rw [hap] at HA
      have haro : Hid (arB o hh = true) := by change _ = _; rw [har.out, hap]; rfl
      have hokhH : Hid (okV hh = true) := hokh
      have huH : Hid (Upto o hs i) := hu
      have hnoiH : Hid (∀ j, j < i → beB hh (hs[j]?.getD []) = false → plV o hs = false) := fun j hj e => hnoi (fun _ _ => ⟨j, hj, e⟩)
      clear hu hnoi har hap hokh
      go_wp2_with fail
      refine wp_region_quiet_below (by kernel_rfl) (by kernel_rfl) ?_
      repeat (first | go_big_quiet_step (first | (go_at_call 43; with_reducible exact Calls.regrown_of (HO.out _ _)) | (go_at_call 44; with_reducible exact Calls.regrown_of (HI.out _ _)) | (go_at_call 45; with_reducible exact Calls.regrown_of (HA.out _ _))))
      refine wpQuiet_nil ?_
      intro _ hw'
      obtain ⟨⟨dq, osq⟩, hw''⟩ := hw'
      subst hw''
      have J := below_regrown wr dq osq
      generalize grow (redrawn wr dq) osq = v2 at J ⊢
      have hn2 := bw_trans hnx J
      clear J HO HI HA c0r f0r f1r u0 u1 t0 t1 zT hcs c0
      go_wp2_with fail
      go_loopw [5] (fun k wr => ∃ k' : Nat, k' ≤ i ∧ k = .int .i64 k' ∧ (∀ j, j < k' → beB hh (hs[j]?.getD []) = true) ∧ Below v.heap.size v wr) (fun k _ => i - (intOf k).toNat)
      case atStart => exact ⟨0, Nat.zero_le _, rfl, fun j hj => by omega, hn2⟩
      case round =>
        obtain ⟨k, hk, rfl, hrow, hny⟩ := hrel
        by_cases hlt2 : k < i
        case neg =>
          obtain rfl : k = i := by omega
          have hup : Hid (Upto o hs (k + 1)) := fun j hj => by
            rcases Nat.lt_or_ge j k with h | h
            · exact huH.out j h
            · obtain rfl : j = k := by omega
              rw [HE.out]; exact ⟨hokhH.out, haro.out, hrow⟩
          clear hrow
          go_wp2_with fail
          go_roundw
          case rel => exact ⟨k + 1, by omega, by simp, hup.out, hny⟩
          case measure => simp [intOf]; omega
        case pos =>
          obtain ⟨t0, t1⟩ := blk_2 (keep hny T)
          have zT := blk_lt (keep hny T)
          rcases hS.below hny with h0 | ⟨b', off', hbo, hbl', hcs⟩
          · omega
          cases hbo
          have ck := hcs k (by omega)
          clear hcs
          have j0 : (0 : Int) ≤ (k : Int) := Int.natCast_nonneg _
          have j1 : (k : Int) < (nh : Int) := by omega
          obtain ⟨hLk, hPk⟩ := hH k (by omega)
          have hokk := (huH.out k hlt2).1
          have hnok := hnoiH.out k hlt2
          have hrow' : Hid (beB hh (hs[k]?.getD []) = true → ∀ j, j < k + 1 → beB hh (hs[j]?.getD []) = true) := fun e j hj => by
            rcases Nat.lt_or_ge j k with h | h
            · exact hrow j h
            · obtain rfl : j = k := by omega
              exact e
          clear hrow
          generalize hs[k]?.getD [] = hk2 at hPk hokk hnok hrow'
          have hPkw := (hPk.below hny).grow hny.size
          have hPiw' := (hPi.below hny).grow hny.size
          have hpt2 := hPt.out hk2 hokk
          have hLk3 : 3 ≤ L k := by have := hpt2.2; have := hPk.1; omega
          have hI1 : Hid (∀ d os, Calls Try.prog 44 #[.slice (A k) (L k) (C k), .agg #[.int .i64 qq.1, .int .i64 qq.2]] (grow (redrawn wr d) os) fun e W' => e = .returned (.int .i64 (inI hk2 qq)) ∧ Below (grow (redrawn wr d) os).heap.size (grow (redrawn wr d) os) W') := fun d os =>
            sInI_pts (A k) (L k) (C k) hk2 qq hokk hq0.out _ ((hPkw.below (below_regrown wr d os)).grow (below_regrown wr d os).size)
          have hI2 : Hid (∀ d os, Calls Try.prog 44 #[.slice (A i) (L i) (C i), .agg #[.int .i64 (ptAt hk2 0).1, .int .i64 (ptAt hk2 0).2]] (grow (redrawn wr d) os) fun e W' => e = .returned (.int .i64 (inI hh (ptAt hk2 0))) ∧ Below (grow (redrawn wr d) os).heap.size (grow (redrawn wr d) os) W') := fun d os =>
            sInI_pts (A i) (L i) (C i) hh (ptAt hk2 0) hokhH.out hpt2.1 _ ((hPiw'.below (below_regrown wr d os)).grow (below_regrown wr d os).size)
          have HA1 : Hid (∀ d os, Calls Try.prog 45 #[.slice (A i) (L i) (C i), .slice (A k) (L k) (C k)] (grow (redrawn wr d) os) fun e W' => e = .returned (.bool (apL hh hk2)) ∧ Below (grow (redrawn wr d) os).heap.size (grow (redrawn wr d) os) W') := fun d os =>
            sApart_pts (A i) (A k) (L i) (C i) (L k) (C k) hh hk2 hokhH.out hokk _ ((hPiw'.below (below_regrown wr d os)).grow (below_regrown wr d os).size) ((hPkw.below (below_regrown wr d os)).grow (below_regrown wr d os).size)
          obtain ⟨bi2, offi2, hai2, hbi2, f0, f1⟩ := pts_first hPiw' (by omega)
          obtain ⟨bk, offk, hak, hbk, g0, g1⟩ := pts_first hPkw (by omega)
          have f0r := cell_regrown f0
          have f1r := cell_regrown f1
          have g0r := cell_regrown g0
          have g1r := cell_regrown g1
          have ckr := cell_regrown ck
          obtain ⟨u0, u1⟩ := reg_2 (keep hny T)
          rw [hai] at hai2
          cases hai2
          rw [hai] at hI2 HA1
          rw [hak] at hI1 HA1 ckr
          rw [HQ.out] at f0r f1r
          have p2 : (0 : Int) < (L k : Int) := by omega
          have hbe : Hid (beB hh hk2 = (apL hh hk2 && (inI hk2 qq == -1) && (inI hh (ptAt hk2 0) == -1))) := by
            change _ = _; rw [Bool.eq_iff_iff, beB_iff, HQ.out]; simp only [Bool.and_eq_true, beq_iff_eq]
            constructor
            · rintro ⟨h1, h2, h3⟩; exact ⟨⟨h1, h3⟩, h2⟩
            · rintro ⟨⟨h1, h2⟩, h3⟩; exact ⟨h1, h3, h2⟩
          generalize inI hk2 qq = v1 at hI1 hbe
          generalize inI hh (ptAt hk2 0) = v3 at hI2 hbe
          generalize ptAt hk2 0 = q3 at *
          clear f0 f1 g0 g1 ck t0 t1
          cases hap : apL hh hk2
          · rw [hap] at HA1
            have e1 : Hid (plV o hs = false) := hnok (by rw [hbe.out, hap]; rfl)
            clear hnok hbe hrow' hap
            go_wp2_with fail
            refine wp_region_quiet_below (by kernel_rfl) (by kernel_rfl) ?_
            repeat (first | go_big_quiet_step (first | (go_at_call 45; with_reducible exact Calls.regrown_of (HA1.out _ _))))
            refine wpQuiet_nil ?_
            intro _ hw'
            obtain ⟨⟨dq, osq⟩, hw''⟩ := hw'
            subst hw''
            have J := below_regrown wr dq osq
            generalize grow (redrawn wr dq) osq = v4 at J ⊢
            go_wp2_with fail
            go_ret
            exact ⟨ret_bool e1.out.symm, bw_trans (bw_trans K hny) J⟩
          rw [hap] at HA1
          cases hv1 : v1 == -1
          · have hne : (v1 != -1) = true := by simp only [bne, hv1, Bool.not_false]
            have e1 : Hid (plV o hs = false) := hnok (by rw [hbe.out, hap, hv1]; rfl)
            clear hnok hbe hrow' hap
            go_wp2_with fail
            refine wp_region_quiet_below (by kernel_rfl) (by kernel_rfl) ?_
            repeat (first | go_big_quiet_step (first | (go_at_call 45; with_reducible exact Calls.regrown_of (HA1.out _ _)) | (go_at_call 44; with_reducible exact Calls.regrown_of (hI1.out _ _))))
            refine wpQuiet_nil ?_
            intro _ hw'
            obtain ⟨⟨dq, osq⟩, hw''⟩ := hw'
            subst hw''
            have J := below_regrown wr dq osq
            generalize grow (redrawn wr dq) osq = v4 at J ⊢
            go_wp2_with fail
            go_ret
            exact ⟨ret_bool e1.out.symm, bw_trans (bw_trans K hny) J⟩
          obtain rfl : v1 = -1 := by simpa using hv1
          cases hv3 : v3 == -1
          · have hne : (v3 != -1) = true := by simp only [bne, hv3, Bool.not_false]
            have e1 : Hid (plV o hs = false) := hnok (by rw [hbe.out, hap, hv3]; rfl)
            clear hnok hbe hrow' hap
            go_wp2_with fail
            refine wp_region_quiet_below (by kernel_rfl) (by kernel_rfl) ?_
            repeat (first | go_big_quiet_step (first | (go_at_call 45; with_reducible exact Calls.regrown_of (HA1.out _ _)) | (go_at_call 44; with_reducible exact Calls.regrown_of (hI1.out _ _)) | (go_at_call 44; with_reducible exact Calls.regrown_of (hI2.out _ _))))
            refine wpQuiet_nil ?_
            intro _ hw'
            obtain ⟨⟨dq, osq⟩, hw''⟩ := hw'
            subst hw''
            have J := below_regrown wr dq osq
            generalize grow (redrawn wr dq) osq = v4 at J ⊢
            go_wp2_with fail
            go_ret
            exact ⟨ret_bool e1.out.symm, bw_trans (bw_trans K hny) J⟩
          obtain rfl : v3 = -1 := by simpa using hv3
          have hrow2 : Hid (∀ j, j < k + 1 → beB hh (hs[j]?.getD []) = true) := hrow'.out (by rw [hbe.out, hap]; rfl)
          clear hnok hbe hrow' hap
          go_wp2_with fail
          refine wp_region_quiet_below (by kernel_rfl) (by kernel_rfl) ?_
          repeat (first | go_big_quiet_step (first | (go_at_call 45; with_reducible exact Calls.regrown_of (HA1.out _ _)) | (go_at_call 44; with_reducible exact Calls.regrown_of (hI1.out _ _)) | (go_at_call 44; with_reducible exact Calls.regrown_of (hI2.out _ _))))
          refine wpQuiet_nil ?_
          intro _ hw'
          obtain ⟨⟨dq, osq⟩, hw''⟩ := hw'
          subst hw''
          have J := below_regrown wr dq osq
          generalize grow (redrawn wr dq) osq = v4 at J ⊢
          go_wp2_with fail
          go_roundw
          case rel => exact ⟨k + 1, by omega, by simp, hrow2.out, bw_trans hny J⟩
          case measure => simp [intOf]; omega
end Go.Proofs.Ythedlopfjlnogaa
namespace Go.Proofs.Ythedlopfjlnogaa
open Go.RowKit Go.Sort

theorem sEdges_pts (a1 : Option Addr) (len1 cap1 : Nat) (l1 : List P2) (ok1 : okV l1 = true) (w : World) (hP1 : Pts w.heap.size w a1 len1 l1) :
    Calls Try.prog 68 #[.slice a1 len1 cap1] w fun e w' => ∃ g c, e = .returned (.slice (some ⟨g, 0, none⟩) len1 c) ∧ w'.ownsRow w.heap.size 44 4 (.slice (some ⟨g, 0, none⟩) len1 c) len1 (cellsS (segsL l1)) ∧ Below w.heap.size w w' := by
  have h1 := okV_pos ok1
  obtain ⟨e1, c1⟩ := hP1
  rcases c1 with h0 | ⟨b1, off1, rfl, hb1, hc1⟩
  · omega
  refine (sEdges_ok b1 off1 len1 cap1 l1 w e1 (by omega) (by omega) hb1 hc1).mono ?_
  rintro e w' ⟨v, rfl, ho, J⟩
  rw [← e1, ← segsL_cells, e1] at ho
  have ho' := ho
  rcases ho.2 with ⟨_, h0⟩ | ⟨g, c, cur, rfl, _⟩
  · omega
  · exact ⟨g, c, rfl, ho', J⟩
theorem cellsS_one (ss : List (P2 × P2)) : ∀ u ∈ cellsS ss, u.oneCell' = true := by
  intro u hu
  simp only [cellsS, List.mem_flatMap, seg4] at hu
  obtain ⟨s, _, hs⟩ := hu
  simp at hs
  rcases hs with rfl | rfl | rfl | rfl <;> rfl
set_option maxRecDepth 100000 in
set_option maxHeartbeats 4000000 in
theorem l11Edges_ok (a ah : Option Addr) (la ca nh ch : Nat) (o : List P2) (hs : List (List P2)) (hv : plV o hs = true) (w : World) (h : Plt w a la ah nh o hs) :
    Calls Try.prog 59 #[.agg #[.slice a la ca, .slice ah nh ch]] w fun e W' => ∃ v, e = .returned v ∧ W'.ownsRow w.heap.size 44 4 v (plE o hs).length (cellsS (plE o hs)) ∧ Below w.heap.size w W' := by
  obtain ⟨i0, hi0, hz0, hz1, hz2⟩ := info_parts Try.infoSeg
  obtain ⟨W, hW, BW, TP⟩ : ∃ W, W = w.alloc (.cells #[.slice a la ca, .slice ah nh ch] 26) ∧ Below w.heap.size w W ∧ W.heap[w.heap.size]? = some (.cells #[.slice a la ca, .slice ah nh ch] 26 (0, 0)) := ⟨_, rfl, (by repeat (first | exact bw_refl _ | assumption | apply bw_drewN | apply bw_drew | apply bw_alloc | refine bw_set ?_ (by simp) _)), heap_new _ _⟩
  have hPV := (plV_iff o hs).1 hv
  obtain ⟨hla, hP, hlen, A, L, C, hS, hH⟩ := h.below BW
  have HO := sEdges_pts a la ca o hPV.out W hP
  have HOK : Hid (∀ j, j < nh → okV (hs[j]?.getD []) = true) := fun j hj => hPV.ok _ (by rw [List.getElem?_eq_getElem (by omega), Option.getD_some]; exact List.getElem_mem _)
  have HE : Hid (plE o hs = segsL o ++ (hs.take nh).flatMap segsL) := by change _ = _; unfold plE; rw [hv, if_pos rfl, ← hlen, List.take_length]
  have HT : Hid (∀ k, k < nh → (hs.take (k + 1)).flatMap segsL = (hs.take k).flatMap segsL ++ segsL (hs[k]?.getD [])) := fun k hk => by
    rw [List.take_add_one, List.flatMap_append, List.getElem?_eq_getElem (by omega)]; simp
  have HB : Hid (∀ k, k ≤ nh → (segsL o ++ (hs.take k).flatMap segsL).length ≤ 24) := fun k hk => by
    have h0 := (okV_pos hPV.out).2
    have h2 := flat_len (hs.take k) (fun x hx => (okV_pos (hPV.ok x (List.mem_of_mem_take hx))).2)
    have h3 := hPV.len
    rw [List.length_append, segsL_len]; rw [List.length_take] at h2; omega
  have hl0 : Hid (la = (segsL o).length) := by change _ = _; rw [segsL_len]; exact hP.1.symm
  have hnh : nh ≤ 2 := by have := hPV.len; omega
  clear hlen hPV hv h
  obtain ⟨t0, t1⟩ := blk_2 TP
  have zP := blk_lt TP
  go_enter Try.func59, Try.ntmps59
  go_upto_region 1 with fail
  rw [← hW]
  clear hW
  go_wp2_with fail
  refine HO.mono ?_
  rintro e v ⟨g0, c0, rfl, ho0, J⟩
  have ho1 : v.ownsRow W.heap.size 44 4 (.slice (some ⟨g0, 0, none⟩) la c0) (segsL o ++ (hs.take 0).flatMap segsL).length (cellsS (segsL o ++ (hs.take 0).flatMap segsL)) := by
    have e0 := hl0.out; simp only [List.take_zero, List.flatMap_nil, List.append_nil]; rw [← e0]; exact ho0
  clear HO t0 t1 ho0
  go_wp2_with fail
  go_loopw [3, 4] (fun out i wr => ∃ k : Nat, k ≤ nh ∧ i = .int .i64 k ∧ wr.ownsRow W.heap.size 44 4 out (segsL o ++ (hs.take k).flatMap segsL).length (cellsS (segsL o ++ (hs.take k).flatMap segsL)) ∧ Below W.heap.size W wr) (fun _ i _ => nh - (intOf i).toNat)
  case atStart => exact ⟨0, Nat.zero_le _, rfl, ho1, J⟩
  case round =>
    obtain ⟨k, hk, rfl, hown, hnx⟩ := hrel
    obtain ⟨t0, t1⟩ := blk_2 (keep hnx TP)
    have zz := hnx.size
    by_cases hlt : k < nh
    case neg =>
      obtain rfl : nh = k := by omega
      rw [← HE.out] at hown
      go_wp2_with fail
      go_ret
      exact ⟨_, rfl, own_base hown BW.size, bw_trans BW hnx⟩
    case pos =>
      rcases hS.below hnx with h0 | ⟨b, off, rfl, hbl, hcs⟩
      · omega
      have c1 := hcs k hlt
      clear hcs
      have j0 : (0 : Int) ≤ (k : Int) := Int.natCast_nonneg _
      have j1 : (k : Int) < (nh : Int) := by omega
      obtain ⟨hLk, hPk⟩ := hH k hlt
      have hokk := HOK.out k hlt
      have hcall := sEdges_pts (A k) (L k) (C k) _ hokk wr ((hPk.below hnx).grow hnx.size)
      have hlk : (segsL (hs[k]?.getD [])).length = L k := by rw [segsL_len]; exact hPk.1
      have hbk := HB.out k hk
      have hbk1 := HB.out (k + 1) hlt
      rw [HT.out k hlt, ← List.append_assoc, List.length_append, hlk] at hbk1
      have hl1 : (segsL o ++ (hs.take k).flatMap segsL).length + L k = (segsL o ++ (hs.take (k + 1)).flatMap segsL).length := by rw [HT.out k hlt, ← List.append_assoc, List.length_append (bs := segsL _), hlk]
      have hc1 : cellsS (segsL o ++ (hs.take (k + 1)).flatMap segsL) = cellsS (segsL o ++ (hs.take k).flatMap segsL) ++ cellsS (segsL (hs[k]?.getD [])) := by rw [HT.out k hlt, ← List.append_assoc, cellsS_append _ (segsL _)]
      have HL1 : Hid ((segsL o ++ (hs.take k).flatMap segsL).length + L k = (segsL o ++ (hs.take (k + 1)).flatMap segsL).length) := hl1
      have HC1 : Hid (cellsS (segsL o ++ (hs.take (k + 1)).flatMap segsL) = cellsS (segsL o ++ (hs.take k).flatMap segsL) ++ cellsS (segsL (hs[k]?.getD []))) := hc1
      have HLK : Hid ((cellsS (segsL (hs[k]?.getD []))).length = L k * 4) := by change _ = _; rw [cellsS_len, hlk]
      have hm1 : (segsL o ++ (hs.take k).flatMap segsL).length + L k ≤ 24 := by rw [hl1]; exact HB.out (k + 1) hlt
      clear hl1 hc1 hbk1 hlk
      go_wp2_with (first
        | (go_at_call 68; refine hcall.mono ?_; rintro e w7 ⟨g7, c7, rfl, ho7, J7⟩; have hown7 := hown.kept (w' := w7) (row := none) ⟨J7.os, J7.tape, J7.output, J7.size, fun j hj _ => J7.block j hj⟩ (Classical.em _); have hn7 := bw_trans hnx J7; have zz7 := hn7.size)
        | (at_builtin; refine wpList_append_own_wide _ rfl _ _ _ rfl W.heap.size 44 i0 _ 4 32 Try.underlying40 hi0 hz0 hz1 hz2 rfl (by omega) _ _ _ rfl hown7 ⟨g7, 0, none⟩ (L k) c7 (cellsS (segsL (hs[k]?.getD []))) rfl HLK.out (ho7.cells (g := g7) rfl) (cellsS_one _) (by simp [maxLen] at hm1 ⊢; omega) (by omega) (by omega) ?_; intro v8 w8 hown8 hgr8 hnil8))
      go_roundw
      case rel => exact ⟨k + 1, by omega, by simp, by rw [← HL1.out, HC1.out]; exact hown8, hn7.grown hgr8 zz7 (fun j e => (hown7.lt j e).1)⟩
      case measure => simp [intOf]; omega
set_option maxHeartbeats 1000000 in
theorem sPlateEdges_ans (a ah : Option Addr) (la ca nh ch : Nat) (o : List P2) (hs : List (List P2)) (w : World) (h : Plt w a la ah nh o hs) :
    Calls Try.prog 23 #[.agg #[.slice a la ca, .slice ah nh ch]] w fun e W' => ∃ v, e = .returned v ∧ AnsS w.heap.size W'.heap.size W' v (plE o hs) ∧ Below w.heap.size w W' := by
  obtain ⟨W, hW, BW, TP⟩ : ∃ W, W = w.alloc (.cells #[.slice a la ca, .slice ah nh ch] 26) ∧ Below w.heap.size w W ∧ W.heap[w.heap.size]? = some (.cells #[.slice a la ca, .slice ah nh ch] 26 (0, 0)) := ⟨_, rfl, (by repeat (first | exact bw_refl _ | assumption | apply bw_drewN | apply bw_drew | apply bw_alloc | refine bw_set ?_ (by simp) _)), heap_new _ _⟩
  obtain ⟨t0, t1⟩ := blk_2 TP
  have zz := BW.size
  cases hv : plV o hs
  · go_enter Try.func23, Try.ntmps23
    go_upto_region 1 with fail
    rw [← hW]
    clear hW
    go_wp2_with fail
    refine (sPlateOk_any a ah la ca nh ch o hs _ (h.below BW)).mono ?_
    rw [hv]
    rintro e w1 ⟨rfl, J⟩
    go_wp2_with fail
    go_ret
    exact ⟨_, rfl, .inl ⟨by unfold plE; rw [hv]; rfl, _, _, rfl⟩, bw_alloc (bw_trans BW J) _⟩
  · go_enter Try.func23, Try.ntmps23
    go_upto_region 1 with fail
    rw [← hW]
    clear hW
    go_wp2_with fail
    refine (sPlateOk_any a ah la ca nh ch o hs _ (h.below BW)).mono ?_
    rw [hv]
    rintro e w1 ⟨rfl, J⟩
    clear t0 t1
    obtain ⟨t0, t1⟩ := blk_2 (keep J TP)
    have zJ := J.size
    go_wp2_with fail
    refine (l11Edges_ok a ah la ca nh ch o hs hv _ ((h.below BW).below J)).mono ?_
    rintro e w2 ⟨v, rfl, ho, J2⟩
    go_wp2_with fail
    go_ret
    exact ⟨_, rfl, ansS_mono (AnsS.of_owns ho rfl) (by omega), bw_trans (bw_trans BW J) J2⟩
end Go.Proofs.Ythedlopfjlnogaa
namespace Go.Proofs.Ythedlopfjlnogaa
open Go.ChangeShapes Go.WideShapes Go.ChangeAt Go.RowKit Go.Joins

theorem open_pt_cells {H : Type} {enc : TypeId × Value → H} {W : World} {base : Nat} {spare : Nat → Bool} {held : Bool} {n : Nat} {c0 c1 : Value} {y : DataW H × List MemPlace} (h : DataW.trod enc Try.prog W base spare held n 95 [c0, c1] = some y) :
    ∃ a b : Int, c0 = .int .i64 a ∧ c1 = .int .i64 b ∧ (Lit.int .i64 a).wf = true ∧ (Lit.int .i64 b).wf = true := by
  have hI : Try.prog.cellsOf 3 = 1 := by kernel_rfl
  obtain ⟨y0, y1, m, _, _, h0, h1⟩ := trod_struct2 Try.underlying95 h
  simp only [hI] at h0 h1
  obtain ⟨a, ea, _, wa⟩ := DataW.trod_int Try.underlying3 h0
  obtain ⟨b, eb, _, wb⟩ := DataW.trod_int Try.underlying3 h1
  simp at ea eb
  exact ⟨a, b, ea, eb, wa, wb⟩
set_option maxRecDepth 100000 in
theorem open_pt {H : Type} {enc : TypeId × Value → H} {W : World} {base : Nat} {spare : Nat → Bool} {held : Bool} {r : Reach} {b0 : Nat} {v : Value} {d : DataW H} {p : List MemPlace} (hv : Value.okWide Try.prog W r b0 95 v) (h : DataW.Trod enc Try.prog W base spare held 95 v d p) :
    ∃ a b : Int, v = .agg #[.int .i64 a, .int .i64 b] ∧ (Lit.int .i64 a).wf = true ∧ (Lit.int .i64 b).wf = true := by
  obtain ⟨cs, rfl, hsz⟩ := okWide_struct Try.underlying95 hv
  obtain ⟨c0, c1, rfl⟩ := array2 (hsz.trans (show Try.prog.cellsOf 95 = 2 by kernel_rfl))
  obtain ⟨fuel, hf⟩ := h
  obtain ⟨a, b, rfl, rfl, wa, wb⟩ := open_pt_cells (by simpa [Value.cells] using hf)
  exact ⟨a, b, rfl, wa, wb⟩
end Go.Proofs.Ythedlopfjlnogaa
namespace Go.Proofs.Ythedlopfjlnogaa
open Go.ChangeShapes Go.WideShapes Go.ChangeAt Go.RowKit Go.Joins

set_option maxRecDepth 100000 in
theorem open_pts {H : Type} {enc : TypeId × Value → H} {W : World} {base : Nat} {spare : Nat → Bool} {held : Bool} {a : Option Addr} {len cap : Nat} {d : DataW H} {p : List MemPlace} (h : DataW.Trod enc Try.prog W base spare held 47 (.slice a len cap) d p) :
    ∃ l, Came W a len cap l := by
  have hI : Try.prog.cellsOf 3 = 1 := by kernel_rfl
  obtain ⟨fuel, hf⟩ := h
  rcases Go.Deep.open_slice_pairs Try.underlying47 Try.underlying95 (by kernel_rfl) rfl rfl hI hI hf with ⟨hcs, _⟩ | ⟨x, len', cap', m, n, V0, V1, D0, D1, P0, P1, hcs, _, hl, hm, hmm, _, hx⟩
  · simp [Value.cells] at hcs
    obtain ⟨rfl, rfl, rfl⟩ := hcs
    exact ⟨[], .inl ⟨rfl, rfl, rfl, rfl⟩⟩
  · simp [Value.cells] at hcs
    obtain ⟨rfl, rfl, rfl⟩ := hcs
    have hlm : len ≤ m := by rw [hmm]; split <;> omega
    refine ⟨(List.range len).map fun i => (intOf (V0 i), intOf (V1 i)), .inr ⟨x, rfl, hl, hm, by simp, fun j hj => ?_⟩⟩
    obtain ⟨c0, c1, t0, t1⟩ := hx j (by omega)
    obtain ⟨u, eu, _, _⟩ := DataW.trod_int Try.underlying3 t0
    obtain ⟨v, ev, _, _⟩ := DataW.trod_int Try.underlying3 t1
    simp at eu ev
    have e : ptAt ((List.range len).map fun i => (intOf (V0 i), intOf (V1 i))) j = (u, v) := by
      simp [ptAt, hj, eu, ev, intOf]
    rw [e, c0, c1, eu, ev]
    exact ⟨rfl, rfl⟩
end Go.Proofs.Ythedlopfjlnogaa
namespace Go.Proofs.Ythedlopfjlnogaa
open Go.ChangeShapes Go.WideShapes Go.ChangeAt Go.RowKit Go.Joins

/-- Loops that came in. -/
def CameH (W : World) (ah : Option Addr) (nh : Nat) (hs : List (List P2)) : Prop :=
  hs.length = nh ∧ nh ≤ maxLen ∧ ∃ (A : Nat → Option Addr) (L C : Nat → Nat), SlcRow W.heap.size W ah nh A L C ∧ ∀ j, j < nh → Came W (A j) (L j) (C j) (hs[j]?.getD [])
theorem open_pts_cells {H : Type} {enc : TypeId × Value → H} {W : World} {base : Nat} {spare : Nat → Bool} {held : Bool} {fuel : Nat} {v : Value} {y : DataW H × List MemPlace} (h : DataW.trod enc Try.prog W base spare held fuel 47 [v] = some y) :
    ∃ (q : Option Addr × Nat × Nat × List P2), v = .slice q.1 q.2.1 q.2.2.1 ∧ Came W q.1 q.2.1 q.2.2.1 q.2.2.2 := by
  have hsl : ∃ a len cap, v = .slice a len cap := by
    rcases Go.Deep.open_slice Try.underlying47 h with ⟨hcs, _⟩ | ⟨x, len, cap, m, n, D, Pl, hcs, _⟩
    · simp at hcs; exact ⟨_, _, _, hcs⟩
    · simp at hcs; exact ⟨_, _, _, hcs⟩
  obtain ⟨a, len, cap, rfl⟩ := hsl
  obtain ⟨l, hl⟩ := open_pts (a := a) (len := len) (cap := cap) ⟨fuel, by simpa [Value.cells] using h⟩
  exact ⟨(a, len, cap, l), rfl, hl⟩
set_option maxRecDepth 100000 in
theorem open_ptss {H : Type} {enc : TypeId × Value → H} {W : World} {base : Nat} {spare : Nat → Bool} {held : Bool} {fuel : Nat} {v : Value} {y : DataW H × List MemPlace} (h : DataW.trod enc Try.prog W base spare held fuel 48 [v] = some y) :
    ∃ ah nh ch hs, v = .slice ah nh ch ∧ CameH W ah nh hs := by
  rcases Go.Deep.open_slice1 Try.underlying48 (by kernel_rfl) h with ⟨hcs, _⟩ | h2
  · simp at hcs
    subst hcs
    exact ⟨none, 0, 0, [], rfl, rfl, Nat.zero_le _, fun _ => none, fun _ => 0, fun _ => 0, .inl rfl, fun j hj => by omega⟩
  · obtain ⟨x, len, cap, m, n, V, D, Pl, hcs, _, hl, hm, hmm, _, hx⟩ := h2
    simp at hcs
    subst hcs
    have hlm : len ≤ m := by rw [hmm]; split <;> omega
    obtain ⟨f, hf⟩ := Go.Deep.choose_lt (n := len) (p := fun i (q : Option Addr × Nat × Nat × List P2) => V i = .slice q.1 q.2.1 q.2.2.1 ∧ Came W q.1 q.2.1 q.2.2.1 q.2.2.2) (fun i hi => open_pts_cells (hx i (by omega)).2)
    have hget : ∀ j, j < len → ((List.range len).map fun i => (f i).2.2.2)[j]?.getD [] = (f j).2.2.2 := fun j hj => by simp [hj]
    refine ⟨some x, len, cap, (List.range len).map fun i => (f i).2.2.2, rfl, by simp, by omega, fun j => (f j).1, fun j => (f j).2.1, fun j => (f j).2.2.1, ?_, fun j hj => by rw [hget j hj]; exact (hf j hj).2⟩
    rcases Nat.eq_zero_or_pos len with h0 | h0
    · exact .inl h0
    · obtain ⟨b, off, sp⟩ := x
      have c0 := (hx 0 (by omega)).1
      have e0 : (⟨b, off, sp⟩ : Addr).add 0 = ⟨b, off, sp⟩ := by simp [Addr.add]
      rw [e0] at c0
      have hs : sp = none := spot_none c0
      subst hs
      have add : ∀ k : Nat, (⟨b, off, none⟩ : Addr).add k = ⟨b, off + k, none⟩ := fun k => by unfold Addr.add; split <;> simp_all
      refine .inr ⟨b, off, rfl, World.block_lt_of_cell? _ _ c0, fun j hj => ?_⟩
      have := (hx j (by omega)).1
      rw [add, (hf j hj).1] at this
      exact this
set_option maxRecDepth 100000 in
theorem open_plate {H : Type} {enc : TypeId × Value → H} {W : World} {base : Nat} {spare : Nat → Bool} {held : Bool} {r : Reach} {b0 : Nat} {v : Value} {d : DataW H} {p : List MemPlace} (hv : Value.okWide Try.prog W r b0 50 v) (h : DataW.Trod enc Try.prog W base spare held 50 v d p) :
    ∃ a la ca o ah nh ch hs, v = .agg #[.slice a la ca, .slice ah nh ch] ∧ Came W a la ca o ∧ CameH W ah nh hs := by
  have h1 : Try.prog.cellsOf 47 = 1 := by kernel_rfl
  have h2 : Try.prog.cellsOf 48 = 1 := by kernel_rfl
  obtain ⟨cs, rfl, hsz⟩ := okWide_struct Try.underlying50 hv
  obtain ⟨c0, c1, rfl⟩ := array2 (hsz.trans (show Try.prog.cellsOf 50 = 2 by kernel_rfl))
  obtain ⟨fuel, hf⟩ := h
  obtain ⟨y0, y1, m, _, _, t0, t1⟩ := trod_struct2 Try.underlying50 hf
  obtain ⟨q, rfl, hq⟩ := open_pts_cells (v := c0) (by simpa [Value.cells, h1] using t0)
  obtain ⟨ah, nh, ch, hs, rfl, hh⟩ := open_ptss (v := c1) (by simpa [Value.cells, h1, h2] using t1)
  exact ⟨q.1, q.2.1, q.2.2.1, q.2.2.2, ah, nh, ch, hs, rfl, hq, hh⟩
end Go.Proofs.Ythedlopfjlnogaa
namespace Go.Proofs.Ythedlopfjlnogaa
open Go.RowKit Go.Sort

theorem ansS_far {base top lo hi : Nat} {W W' : World} {v : Value} {ss : List (P2 × P2)} (h : AnsS base top W v ss) (F : Far lo hi W W') (hr : top ≤ lo ∨ hi ≤ base) : AnsS base top W' v ss := by
  rcases h with h | ⟨g, c, e, hb, ht, hc, hO, hS⟩
  · exact .inl h
  · have hg := F.block g hO.lt (by omega)
    obtain ⟨cur, h1, h2⟩ := hO
    exact .inr ⟨g, c, e, hb, ht, hc, ⟨cur, hg.trans h1, h2⟩, fun j hj => by
      obtain ⟨c0, c1, c2, c3⟩ := hS j hj
      exact ⟨(World.cell?_of_block (a := ⟨g, j * 4, none⟩) hg).trans c0, (World.cell?_of_block (a := ⟨g, j * 4 + 1, none⟩) hg).trans c1, (World.cell?_of_block (a := ⟨g, j * 4 + 2, none⟩) hg).trans c2, (World.cell?_of_block (a := ⟨g, j * 4 + 3, none⟩) hg).trans c3⟩⟩
set_option maxRecDepth 100000 in
set_option maxHeartbeats 4000000 in
theorem exPlateEdges_walk (W : World) (a : Option Addr) (la ca : Nat) (o : List P2) (ah : Option Addr) (nh ch : Nat) (hs : List (List P2)) (hC : Came W a la ca o) (hH : CameH W ah nh hs) :
    Calls Try.prog 8 #[.agg #[.slice a la ca, .slice ah nh ch]] W fun e w' => e = .returned (.bool true) ∧ Below W.heap.size W w' := by
  have hla := hC.len.2
  have hP := hC.pts
  obtain ⟨hlen, hnm, A, L, C, hS, hHH⟩ := hH
  have hcall := szPlate_any a ah la ca nh ch A L C hla hnm (fun j hj => (hHH j hj).len.2)
  obtain ⟨W1, hW1, BW, T⟩ : ∃ W1, W1 = W.alloc (.cells #[.slice a la ca, .slice ah nh ch] 50) ∧ Below W.heap.size W W1 ∧ W1.heap[W.heap.size]? = some (.cells #[.slice a la ca, .slice ah nh ch] 50) := ⟨_, rfl, (by repeat (first | exact bw_refl _ | assumption | apply bw_drewN | apply bw_drew | apply bw_alloc | refine bw_set ?_ (by simp) _)), heap_new _ _⟩
  replace hcall := hcall W1 ((hS.below BW).grow BW.size)
  have hW1s : W1.heap.size = W.heap.size + 1 := by rw [hW1]; simp
  obtain ⟨t0, t1⟩ := blk_2 T
  go_enter Try.func8, Try.ntmps8
  go_upto_region 2 with fail
  rw [← hW1]
  clear hW1
  go_wp2_with fail
  refine hcall.mono ?_
  clear hcall
  rintro e w1 ⟨J1, hr⟩
  have K1 := bw_trans BW J1
  rcases hr with rfl | ⟨r, r0, r1, rfl, hla1, hn, hLL⟩
  · go_wp2_with fail
    go_ret
    exact ⟨rfl, K1⟩
  have hr0 : ¬ (r < 0) := by omega
  have hPl : Plt w1 a la ah nh o hs := ⟨hla1, (hP.below K1).grow K1.size, hlen, A, L, C, (hS.below K1).grow K1.size, fun j hj => ⟨hLL j hj, ((hHH j hj).pts.below K1).grow K1.size⟩⟩
  have hLs : ∀ j, j < nh → (hAt hs j).length ≤ 1048576 := fun j hj => by have := (hHH j hj).len.1; have := hLL j hj; show (hs[j]?.getD []).length ≤ _; omega
  have HPL : Hid (∀ w', Below W.heap.size W w' → Plt w' a la ah nh o hs) := fun w' K => ⟨hla1, (hP.below K).grow K.size, hlen, A, L, C, (hS.below K).grow K.size, fun j hj => ⟨hLL j hj, ((hHH j hj).pts.below K).grow K.size⟩⟩
  clear hS hHH hP hC hLL
  replace T := keep J1 T
  clear t0 t1
  obtain ⟨t0, t1⟩ := blk_2 T
  have hse := plE_len o hs
  have n2 : ¬ (1 + 4 * ((plE o hs).length : Int) < 0) := by omega
  have zJ1 := J1.size
  go_wp2_with fail
  refine (toPlate_any a ah la ca nh ch o hs w1 hPl hn).mono ?_
  rintro e w2 ⟨g2, gh2, rfl, hPl2, J2⟩
  have K2 := bw_trans K1 J2
  replace hPl := hPl.below J2
  replace T := keep J2 T
  go_wp2_with fail
  refine (sPlateEdges_ans _ _ la la nh nh o hs w2 hPl2).mono ?_
  rintro e w3 ⟨v3, rfl, A3, J3⟩
  have K3 := bw_trans K2 J3
  replace hPl := hPl.below J3
  replace T := keep J3 T
  clear t0 t1
  obtain ⟨t0, t1⟩ := blk_2 T
  have zT3 := blk_lt T
  go_wp2_with fail
  refine (toPlate_own a ah la ca nh ch o hs w3 hPl hn).mono ?_
  rintro e w4 ⟨g4, gh4, rfl, ⟨hg4, hb4, hgh4, hr4⟩, J4⟩
  have hPl4 : Plt w4 (some ⟨g4, 0, none⟩) la (some ⟨gh4, 0, none⟩) nh o hs := plt_of hb4 hPl.2.1.1 hla1 hr4 hlen hLs
  have K4 := bw_trans K3 J4
  replace hPl := hPl.below J4
  replace T := keep J4 T
  replace A3 := A3.below J4
  have z4 := J4.size
  clear t0 t1
  have B5 : Below w4.heap.size w4 (w4.alloc (.cells #[.slice (some ⟨g4, 0, none⟩) la la, .slice (some ⟨gh4, 0, none⟩) nh nh] 26)) := (by repeat (first | exact bw_refl _ | assumption | apply bw_drewN | apply bw_drew | apply bw_alloc | refine bw_set ?_ (by simp) _))
  have X := heap_new w4 (.cells #[.slice (some ⟨g4, 0, none⟩) la la, .slice (some ⟨gh4, 0, none⟩) nh nh] 26)
  replace hPl := hPl.below B5
  replace hPl4 := hPl4.below B5
  replace T := keep B5 T
  replace A3 := A3.below B5
  go_wp2_with fail
  refine (plateEdges_ans _ _ la la nh nh o hs _ hPl4).mono ?_
  rintro e w6 ⟨v6, rfl, A6, J6⟩
  have J46 := bw_trans B5 J6
  have K6 := bw_trans K4 J46
  replace hPl := hPl.below J6
  replace hPl4 := hPl4.below J6
  replace T := keep J6 T
  replace X := keep J6 X
  replace A3 := A3.below J6
  simp only [World.size_alloc] at A6
  go_wp2_with fail
  refine (eqSegs_same _ _ _ _ v6 v3 _ _ A6 A3 (by omega)).mono ?_
  rintro e w7 ⟨rfl, J7⟩
  replace J46 := bw_trans J46 J7
  replace K6 := bw_trans K6 J7
  replace hPl := hPl.below J7
  replace hPl4 := hPl4.below J7
  replace T := keep J7 T
  replace X := keep J7 X
  replace A3 := A3.below J7
  replace A6 := A6.below J7
  obtain ⟨t0, t1⟩ := blk_2 T
  obtain ⟨x0, x1⟩ := blk_2 X
  go_wp2_with fail
  have TD : w7.drew.heap[W.heap.size]? = some (.cells #[.slice a la ca, .slice ah nh ch] 50) := T
  have XD : w7.drew.heap[w4.heap.size]? = some (.cells #[.slice (some ⟨g4, 0, none⟩) la la, .slice (some ⟨gh4, 0, none⟩) nh nh] 26) := X
  have hPlD : Plt w7.drew a la ah nh o hs := hPl
  have hPl4D : Plt w7.drew (some ⟨g4, 0, none⟩) la (some ⟨gh4, 0, none⟩) nh o hs := hPl4
  have KD : Below W.heap.size W w7.drew := K6.drew
  have J4D : Below w4.heap.size w4 w7.drew := J46.drew
  have A3D := A3.below (bw_drew (bw_refl w7))
  have A6D := A6.below (bw_drew (bw_refl w7))
  go_region_held3 (fun w' => (w'.cell? ⟨W.heap.size, 0, none⟩ = some (.slice a la ca) ∧ w'.cell? ⟨W.heap.size, 1, none⟩ = some (.slice ah nh ch)) ∧ w'.cell? ⟨w4.heap.size, 0, none⟩ = some (.slice (some ⟨g4, 0, none⟩) la la) ∧ w'.cell? ⟨w4.heap.size, 1, none⟩ = some (.slice (some ⟨gh4, 0, none⟩) nh nh))
    (first | go_keep | exact ⟨blk_2 TD, blk_2 XD⟩)
    (first
      | (go_at_call 27; refine (toPlate_any a ah la ca nh ch o hs _ hPlD hn).mono ?_; rintro e w8 ⟨g8, gh8, rfl, hPl8, J8⟩; replace KD := bw_trans KD J8; replace J4D := bw_trans J4D J8; replace TD := keep J8 TD; replace XD := keep J8 XD; replace hPl4D := hPl4D.below J8; replace hPlD := hPlD.below J8; replace A3D := A3D.below J8; replace A6D := A6D.below J8)
      | (go_at_call 29; refine (eqPlate_same _ _ _ _ la la nh nh la nh o hs _ hPl4D hPl8 hn).mono ?_; rintro e w9 ⟨rfl, J9⟩; replace KD := bw_trans KD J9; replace J4D := bw_trans J4D J9; replace TD := keep J9 TD; replace XD := keep J9 XD; replace hPlD := hPlD.below J9; replace A3D := A3D.below J9; replace A6D := A6D.below J9))
  clear t0 t1 x0 x1 T X A3 A6 hPl hPl4 K6
  obtain ⟨x0, x1⟩ := blk_2 XD
  go_wp2_with fail
  refine (markPlate_any w3.heap.size g4 gh4 la nh o hs w4 w9 J4D hla1 hn hLs hg4 hb4 hgh4 hr4).mono ?_
  rintro e w10 ⟨⟨u, hu, rfl⟩, F10⟩
  have hu0 : ¬ (u < 0) := by omega
  have z9 := J4D.size
  have K10 : Below W.heap.size W w10 := KD.trans ((F10.below (by omega)).mono K3.size)
  have A3E := ansS_far A3D F10 (.inl (Nat.le_refl _))
  have A6E := ansS_far A6D F10 (.inr (by omega))
  have TE : w10.heap[W.heap.size]? = some (.cells #[.slice a la ca, .slice ah nh ch] 50) := (F10.block _ (blk_lt TD) (.inl (by omega))).trans TD
  clear x0 x1 TD XD A3D A6D
  go_wp2_with fail
  refine (eqSegs_same _ _ _ _ v6 v3 _ _ A6E A3E (by omega)).mono ?_
  rintro e w11 ⟨rfl, J11⟩
  replace K10 := bw_trans K10 J11
  replace A3E := A3E.below J11
  replace A6E := A6E.below J11
  replace TE := keep J11 TE
  go_wp2_with fail
  refine (markSegs_ans _ _ v6 _ _ A6E (by omega)).mono ?_
  rintro e w12 ⟨rfl, N12, r12, hr12, O12⟩
  have z11 : w4.heap.size ≤ w11.heap.size := by have := F10.size; have := J11.size; omega
  have K12 : Below W.heap.size W w12 := K10.trans (O12.below' (B := W.heap.size) (by have := K4.size; omega) (by have := K4.size; omega))
  replace A3E := A3E.only O12 (.inr (by omega))
  replace TE := keepO O12 TE (by omega)
  go_wp2_with fail
  refine (heldSegs_ans v6 _ _ N12 (by omega)).mono ?_
  rintro e w13 ⟨rfl, J13⟩
  replace K12 := bw_trans K12 J13
  replace A3E := A3E.below J13
  replace N12 := N12.below J13
  replace TE := keep J13 TE
  obtain ⟨t0, t1⟩ := blk_2 TE
  go_wp2_with fail
  refine (toPlate_any a ah la ca nh ch o hs w13 (HPL.out _ K12) hn).mono ?_
  rintro e w14 ⟨g14, gh14, rfl, hPl14, J14⟩
  replace K12 := bw_trans K12 J14
  replace A3E := A3E.below J14
  replace N12 := N12.below J14
  go_wp2_with fail
  refine (plateEdges_ans _ _ la la nh nh o hs _ hPl14).mono ?_
  rintro e w15 ⟨v15, rfl, A15, J15⟩
  replace K12 := bw_trans K12 J15
  replace A3E := A3E.below J15
  replace N12 := N12.below J15
  go_wp2_with fail
  refine (eqSegs_same _ _ _ _ v15 v3 _ _ A15 A3E (by omega)).mono ?_
  rintro e w16 ⟨rfl, J16⟩
  replace K12 := bw_trans K12 J16
  replace N12 := N12.below J16
  go_wp2_with fail
  refine (heldSegs_ans v6 _ _ N12 (by omega)).mono ?_
  rintro e w17 ⟨rfl, J17⟩
  go_wp2_with fail
  go_ret
  exact ⟨rfl, bw_trans K12 J17⟩
end Go.Proofs.Ythedlopfjlnogaa
namespace Go.Proofs.Ythedlopfjlnogaa
open Go.ChangeShapes Go.WideShapes Go.ChangeAt Go.RowKit

theorem own : ownKnob Try.prog.godebug = none := by kernel_rfl
theorem laidOut : laidOutB Try.prog = true := by kernel_rfl
end Go.Proofs.Ythedlopfjlnogaa
namespace Go.Proofs.Ythedlopfjlnogaa
open Go.ChangeShapes Go.WideShapes Go.ChangeAt Go.RowKit Go.Joins
open Go.ChangeMaps (open_string shut_string)

set_option maxRecDepth 100000 in
theorem fnExactPlateEdges_lifted (os : Os) (started : os.Started) (H : Type) (enc : TypeId × Value → H) :
    ReturnsInHanded {} Try.checked os 8 .any (Rows.fnExactPlateEdgesSpec.pre6 enc Try.prog Try.f8 Rows.fnExactPlateEdgesRow.domain false) (Rows.fnExactPlateEdgesSpec.post enc Try.prog Try.f8 false true false false) := by
  refine returnsInHanded_of_change (C := Try.checked) own started (by kernel_rfl) Try.func8
    (ChangeSpec.witness6 (enc := enc) (C := Try.checked) false ⟨#[], #[.agg #[.slice none 0 0, .slice none 0 0]], []⟩ 8 (by kernel_rfl) (by kernel_rfl) (by kernel_rfl) (by kernel_rfl)) ?_
  intro W base args ds gs before hval0 hW _ _
  have hval : ∀ (j : Nat) t v, Try.f8.params[j]? = some t → args[j]? = some v → Value.okWide Try.prog W .any base t v := hval0
  have hW' := hW
  obtain ⟨p, q, hA0, hV, rfl, hfz, hnd⟩ := hW
  have hA : DataW.TrodAll enc Try.prog W 0 (fun _ => true) true Try.f8.params.toList args.toList ds p := hA0
  rw [Try.params8] at hA hval
  obtain ⟨v0, vs0, d0, ds0, p0, q0, hargs, rfl, rfl, h0, r0⟩ := trodAll_cons hA
  obtain ⟨rfl, rfl, rfl⟩ := trodAll_nil r0
  obtain rfl : args = #[v0] := by cases args; simp_all
  obtain ⟨rfl, rfl⟩ := trodVars_none hV
  have k0 := h0
  have lt0 : ∀ x ∈ p0, x.block < W.heap.size := by obtain ⟨m, hm⟩ := k0; exact DataW.trod_lt m _ _ _ hm
  obtain ⟨a0, la0, ca0, o0, ah0, nh0, ch0, hs0, rfl, w0, wh0⟩ := open_plate (hval 0 50 v0 rfl rfl) h0
  clear hA0 hval0
  refine (exPlateEdges_walk W a0 la0 ca0 o0 ah0 nh0 ch0 hs0 w0 wh0).mono fun e W' ⟨he, bel⟩ => ?_
  subst he
  exact ⟨_, rfl, _, _, _, [], _, [], hW', trodAll_mk1 (shut_bool Try.underlying4 _), (trodAll_cons_mk (Below.trod laidOut (by kernel_rfl) (of_decide_eq_true (by kernel_rfl)) k0 bel lt0) trodAll_mk0), rfl, bel.frame _, fun h => by cases h⟩

theorem fnExactPlateEdges_said : Rows.FnExactPlateEdgesSaid :=
  OpenClaim.holds_of_wide 8 Try.f8 rfl rfl rfl rfl rfl rfl rfl ⟨rfl, rfl, rfl, rfl, rfl⟩ rfl rfl rfl rfl rfl (by kernel_rfl) Try.func8 (by kernel_rfl)
    (of_decide_eq_true (by kernel_rfl)) (by unfold Func.isWrapper; first | (rw [if_pos (by decide +kernel)]; kernel_rfl) | (rw [if_neg (by decide +kernel)]; exact ⟨rfl, rfl⟩))
    (fun os started H enc _ => fnExactPlateEdges_lifted os started H enc)

end Go.Proofs.Ythedlopfjlnogaa
