/-
  OUR OWN TEXT. The law FnFitsMost, for every input: the call returns true, and each argument reads as it did. Texts of ours, joined, so that the claim keeps to its number of files. Conditions: none but the row's own.
-/
import Derived.Test.YtmdjhoknlplecaaGreatDoorJFnFitsMosta
import Derived.Test.YtmdjhoknlplecaaGreatDoorSPlateOk
import Derived.Test.YtmdjhoknlplecaaGreatDoorOk
import Derived.Test.YtmdjhoknlplecaaGreatDoorSEdge
import Derived.Test.YtmdjhoknlplecaaGreatDoorSOk
import Derived.Test.YtmdjhoknlplecaaGreatDoorBoard
import Derived.Test.YtmdjhoknlplecaaGreatDoorBoxes
import Derived.Deep.DeepAppendWide
import Derived.Test.YtmdjhoknlplecaaGreatDoorGeoApart
import Derived.Deep.RegionHeld3
import Derived.Test.YtmdjhoknlplecaaGreatDoorDrawPlate
import Derived.Test.YtmdjhoknlplecaaGreatDoorCards
import Derived.Test.YtmdjhoknlplecaaGreatDoorTie
import Derived.ProofKit
import Derived.OpenShut
import Derived.LaidMore
import Derived.MakeChecks
import Derived.Stop.Joined
import Derived.Stop.LaidErr
import Derived.WalkSmall
import Derived.ChangeOld
import Derived.Lib.SmallJoins
namespace Go.Proofs.YtmdjhoknlplecaaGreatDoor
open Go.RowKit Go.Sort

/-- A tool is ok. -/
def rV (r : Int) : Bool := decide (1 ≤ r ∧ r ≤ 9)
theorem rV_iff (r : Int) : rV r = true ↔ 1 ≤ r ∧ r ≤ 9 := by simp [rV]
/-- The tool does not cut what is as far. -/
def spB (r : Int) (f : Int × Int) : Bool := decide (r * f.2 ≤ f.1)
/-- It fits, where all is ok. -/
def fitI (o : List P2) (hs : List (List P2)) (r : Int) (p : P2) : Bool := decide (plI o hs p = 1) && spB r (plFI o hs p)
/-- It fits. -/
def fitV (o : List P2) (hs : List (List P2)) (r : Int) (p : P2) : Bool := rV r && plV o hs && ptB p.1 p.2 && fitI o hs r p
theorem ok_whole {r : Int} (h : rV r = true) : okB r 1 = true := by
  rw [rV_iff] at h
  rw [okB_iff]
  refine ⟨by omega, by omega, by omega, by omega, ?_⟩
  exact G_one r
theorem sp_cmp {r : Int} {f : Int × Int} (h : rV r = true) (hf : OkF f) : decide (cmpV r 1 f.1 f.2 ≤ 0) = spB r f := by
  unfold cmpV spB
  rw [ok_whole h, show okB f.1 f.2 = true from hf]
  show decide (cmpI (r * f.2) (f.1 * 1) ≤ 0) = _
  rw [Int.mul_one]
  unfold cmpI
  by_cases h1 : r * f.2 < f.1
  · rw [if_pos h1]; simp; omega
  · rw [if_neg h1]
    by_cases h2 : f.1 < r * f.2
    · rw [if_pos h2]; simp; omega
    · rw [if_neg h2]; simp; omega
theorem fitV_ok {o : List P2} {hs : List (List P2)} {r : Int} {p : P2} (hr : rV r = true) (hv : plV o hs = true) (hp : ptB p.1 p.2 = true) : fitV o hs r p = fitI o hs r p := by unfold fitV; rw [hr, hv, hp]; rfl
end Go.Proofs.YtmdjhoknlplecaaGreatDoor
namespace Go.Proofs.YtmdjhoknlplecaaGreatDoor
open Go.RowKit Go.Sort

/-- A point is nearer to a segment than a tool cuts. -/
def nearI (s : P2 × P2) (r : Int) (p : P2) : Bool :=
  if dt s.1.1 s.1.2 s.2.1 s.2.2 p.1 p.2 ≤ 0 then decide (dt s.1.1 s.1.2 p.1 p.2 p.1 p.2 < r)
  else if dt s.1.1 s.1.2 s.2.1 s.2.2 s.2.1 s.2.2 ≤ dt s.1.1 s.1.2 s.2.1 s.2.2 p.1 p.2 then decide (dt s.2.1 s.2.2 p.1 p.2 p.1 p.2 < r)
  else decide (crs s.1.1 s.1.2 s.2.1 s.2.2 p.1 p.2 * crs s.1.1 s.1.2 s.2.1 s.2.2 p.1 p.2 < r * dt s.1.1 s.1.2 s.2.1 s.2.2 s.2.1 s.2.2)
theorem near_raw (s : P2 × P2) (r : Int) (p : P2) : nearI s r p = decide ((farR s.1.1 s.1.2 s.2.1 s.2.2 p.1 p.2).1 < r * (farR s.1.1 s.1.2 s.2.1 s.2.2 p.1 p.2).2) := by
  unfold nearI farR
  split
  · simp
  · split
    · rw [if_pos (by have := dt_back s.1.1 s.1.2 s.2.1 s.2.2 p.1 p.2; omega)]; simp
    · rw [if_neg (by have := dt_back s.1.1 s.1.2 s.2.1 s.2.2 p.1 p.2; omega)]
theorem near_far {s : P2 × P2} {r : Int} {p : P2} (hs : sgP s.1 s.2 = true) (hp : ptB p.1 p.2 = true) : nearI s r p = !spB r (farS p s) := by
  rw [near_raw, farS_of hs hp]
  have hd := (sg_parts hs).2.2
  have e := far_raw hs hp
  have h1 := farR_pos p.1 p.2 hd
  have h2 := far_pos hs hp
  unfold spB
  generalize far s.1.1 s.1.2 s.2.1 s.2.2 p.1 p.2 = f at *
  generalize farR s.1.1 s.1.2 s.2.1 s.2.2 p.1 p.2 = q at *
  rw [← decide_not, decide_eq_decide]
  constructor
  · intro h hc
    have a := raw_le e h1.2 h2.2 (m := q.1) (b := q.2) (Int.le_refl _)
    have b1 := Int.mul_le_mul_of_nonneg_right hc (show 0 ≤ q.2 by omega)
    have b2 : q.1 * f.2 < r * q.2 * f.2 := Int.mul_lt_mul_of_pos_right h h2.2
    grind
  · intro h
    have b1 : f.1 < r * f.2 := by omega
    have b2 : f.1 * q.2 < r * f.2 * q.2 := Int.mul_lt_mul_of_pos_right b1 h1.2
    rw [e] at b2
    refine Int.lt_of_mul_lt_mul_right (a := f.2) ?_ (by omega)
    grind
theorem sp_le {r : Int} {f g : Int × Int} (hr : rV r = true) (hf : OkF f) (hg : OkF g) (h : LeF f g) (hs : spB r f = true) : spB r g = true := by
  unfold spB at *
  rw [decide_eq_true_eq] at *
  have o1 : OkF (r, 1) := ok_whole hr
  have := LeF.trans o1 hf hg (f := (r, 1)) (by unfold LeF; dsimp only; omega) h
  unfold LeF at this
  dsimp only at this
  omega
/-- Where it fits no edge is nearer, and the other way about. -/
theorem fit_all {o : List P2} {hs : List (List P2)} {r : Int} {p : P2} (hr : rV r = true) (hv : plV o hs = true) (hp : ptB p.1 p.2 = true) : ((plE o hs).all fun s => !nearI s r p) = spB r (plFI o hs p) := by
  have hL := plFI_least hv (p := p) hp
  have ho := plFI_ok hv (p := p) hp
  rw [Bool.eq_iff_iff, List.all_eq_true]
  constructor
  · intro h
    obtain ⟨s, hs', e⟩ := List.mem_map.1 hL.mem
    have := h s hs'
    rw [near_far (plE_ok hv hs') hp, Bool.not_not] at this
    rwa [← e]
  · intro h s hs'
    rw [near_far (plE_ok hv hs') hp, Bool.not_not]
    exact sp_le hr ho (farS_ok (plE_ok hv hs') hp) (hL.le _ (List.mem_map.2 ⟨s, hs', rfl⟩)) h
theorem fitI_all {o : List P2} {hs : List (List P2)} {r : Int} {p : P2} (hr : rV r = true) (hv : plV o hs = true) (hp : ptB p.1 p.2 = true) : fitI o hs r p = (((plE o hs).all fun s => !nearI s r p) && decide (plI o hs p = 1)) := by
  rw [fit_all hr hv hp]; unfold fitI; exact Bool.and_comm _ _
end Go.Proofs.YtmdjhoknlplecaaGreatDoor
namespace Go.Proofs.YtmdjhoknlplecaaGreatDoor
open Go.RowKit Go.Sort

end Go.Proofs.YtmdjhoknlplecaaGreatDoor
namespace Go.Proofs.YtmdjhoknlplecaaGreatDoor
open Go.RowKit Go.Sort

theorem foldl_take_succ {α β : Type} (f : β → α → β) (l : List α) (d : α) (s : β) (k : Nat) (hk : k < l.length) : (l.take (k + 1)).foldl f s = f ((l.take k).foldl f s) (l[k]?.getD d) := by
  rw [List.take_add_one, List.foldl_append]; simp [hk]
theorem plI_bd (o : List P2) (hs : List (List P2)) (p : P2) : -1 ≤ plI o hs p ∧ plI o hs p ≤ 1 := by
  unfold plI
  have : ∀ (hs : List (List P2)) (s : Int), -1 ≤ s ∧ s ≤ 1 → -1 ≤ hs.foldl (fun s h => min s (-(inI h p))) s ∧ hs.foldl (fun s h => min s (-(inI h p))) s ≤ 1 := by
    intro hs
    induction hs with
    | nil => intro s h; exact h
    | cons x xs ih => intro s h; exact ih _ (by dsimp only; have := inI_3 x p; omega)
  exact this hs _ (by have := inI_3 o p; omega)
set_option maxRecDepth 100000 in
set_option maxHeartbeats 4000000 in
theorem sPlI_ok (a ah : Option Addr) (la ca nh ch : Nat) (o : List P2) (hs : List (List P2)) (p : P2) (hv : plV o hs = true) (hp : ptB p.1 p.2 = true) (w : World) (h : Plt w a la ah nh o hs) :
    Calls Tryz.prog 76 #[.agg #[.slice a la ca, .slice ah nh ch], .agg #[.int .i64 p.1, .int .i64 p.2]] w fun e W' => e = .returned (.int .i64 (plI o hs p)) ∧ Below w.heap.size w W' := by
  obtain ⟨W, hW, BW, TP, T⟩ := boxes2 w (.cells #[.slice a la ca, .slice ah nh ch] 33) (.cells #[.int .i64 p.1, .int .i64 p.2] 35)
  have hPV := (plV_iff o hs).1 hv
  obtain ⟨hla, hP, hlen, A, L, C, hS, hH⟩ := h.below BW
  have HO := sInI_pts a la ca o p hPV.out hp W hP
  have HOK : Hid (∀ j, j < nh → okV (hs[j]?.getD []) = true) := fun j hj => hPV.ok _ (by rw [List.getElem?_eq_getElem (by omega), Option.getD_some]; exact List.getElem_mem _)
  have HL : Hid (hs.length = nh) := hlen
  have H0 : Hid (plI o (hs.take 0) p = inI o p) := rfl
  have HN : Hid (plI o (hs.take nh) p = plI o hs p) := by change _ = _; rw [← hlen, List.take_length]
  have HS : Hid (∀ k, k < nh → plI o (hs.take (k + 1)) p = min (plI o (hs.take k) p) (-(inI (hs[k]?.getD []) p))) := fun k hk => by
    unfold plI; exact foldl_take_succ _ hs [] _ k (by omega)
  have hnh : nh ≤ 2 := by have := hPV.len; omega
  clear hlen hPV hv h
  obtain ⟨t0, t1⟩ := blk_2 TP
  obtain ⟨u0, u1⟩ := blk_2 T
  have zP := blk_lt TP
  go_enter Tryz.func76, Tryz.ntmps76
  go_upto_region 1 with fail
  rw [← hW]
  clear hW
  go_wp2_with (go_at_call 55; refine HO.mono ?_; rintro e v ⟨rfl, J⟩)
  have K := bw_trans BW J
  replace TP := keep J TP
  replace T := keep J T
  replace hS := (hS.below J).grow J.size
  replace hH : ∀ j, j < nh → L j ≤ 1048576 ∧ Pts v.heap.size v (A j) (L j) (hs[j]?.getD []) := fun j hj => ⟨(hH j hj).1, ((hH j hj).2.below J).grow J.size⟩
  clear HO t0 t1 u0 u1 J zP
  go_loopw [5, 6] (fun s i wr => ∃ k : Nat, k ≤ nh ∧ i = .int .i64 k ∧ s = .int .i64 (plI o (hs.take k) p) ∧ Below v.heap.size v wr) (fun _ i _ => nh - (intOf i).toNat)
  case atStart => exact ⟨0, Nat.zero_le _, rfl, by rw [H0.out], bw_refl _⟩
  case round =>
    obtain ⟨k, hk, rfl, rfl, hnx⟩ := hrel
    have hbd := plI_bd o (hs.take k) p
    obtain ⟨t0, t1⟩ := blk_2 (keep hnx TP)
    have zT := blk_lt (keep hnx TP)
    by_cases hlt : k < nh
    case neg =>
      obtain rfl : k = nh := by omega
      rw [HN.out]
      go_wp2_with fail
      go_ret
      exact ⟨rfl, bw_trans K hnx⟩
    case pos =>
      rcases hS.below hnx with h0 | ⟨b, off, rfl, hbl, hcs⟩
      · omega
      have c0 := cell_regrown (hcs k hlt)
      clear hcs
      have i0 : (0 : Int) ≤ (k : Int) := Int.natCast_nonneg _
      have i1 : (k : Int) < (nh : Int) := by omega
      obtain ⟨hLk, hPk⟩ := hH k hlt
      have hokk := HOK.out k hlt
      have hst := HS.out k hlt
      have hPkw := (hPk.below hnx).grow hnx.size
      have y3 := inI_3 (hs[k]?.getD []) p
      have HW : Hid (∀ d os, Calls Tryz.prog 55 #[.slice (A k) (L k) (C k), .agg #[.int .i64 p.1, .int .i64 p.2]] (grow (redrawn wr d) os) fun e W' => e = .returned (.int .i64 (inI (hs[k]?.getD []) p)) ∧ Below (grow (redrawn wr d) os).heap.size (grow (redrawn wr d) os) W') := fun d os =>
        sInI_pts (A k) (L k) (C k) _ p hokk hp _ ((hPkw.below (below_regrown wr d os)).grow (below_regrown wr d os).size)
      obtain ⟨t0r, t1r⟩ := reg_2 (keep hnx TP)
      obtain ⟨u0r, u1r⟩ := reg_2 (keep hnx T)
      have hst' : Hid (plI o (hs.take (k + 1)) p = min (plI o (hs.take k) p) (-(inI (hs[k]?.getD []) p))) := hst
      clear hst hokk hPk hPkw
      generalize inI (hs[k]?.getD []) p = u1 at *
      generalize plI o (hs.take k) p = u at *
      have nu : IntKind.i64.wrap (-u1) = -u1 := wrap_small (by omega) (by omega)
      by_cases hm : -u1 < u
      · have hmin : min u (-u1) = -u1 := by omega
        go_wp2_with fail
        refine wp_region_quiet_below (by kernel_rfl) (by kernel_rfl) ?_
        repeat (first | go_big_quiet_step (first | (go_at_call 55; with_reducible exact Calls.regrown_of (HW.out _ _))))
        refine wpQuiet_nil ?_
        intro _ hw'
        obtain ⟨⟨dq, osq⟩, hw''⟩ := hw'
        subst hw''
        have J := below_regrown wr dq osq
        generalize grow (redrawn wr dq) osq = v2 at J ⊢
        go_wp2_with fail
        go_roundw
        case rel => exact ⟨k + 1, by omega, by simp, by rw [hst'.out, hmin], bw_trans hnx J⟩
        case measure => simp [intOf]; omega
      · have hmin : min u (-u1) = u := by omega
        go_wp2_with fail
        refine wp_region_quiet_below (by kernel_rfl) (by kernel_rfl) ?_
        repeat (first | go_big_quiet_step (first | (go_at_call 55; with_reducible exact Calls.regrown_of (HW.out _ _))))
        refine wpQuiet_nil ?_
        intro _ hw'
        obtain ⟨⟨dq, osq⟩, hw''⟩ := hw'
        subst hw''
        have J := below_regrown wr dq osq
        generalize grow (redrawn wr dq) osq = v2 at J ⊢
        go_wp2_with fail
        go_roundw
        case rel => exact ⟨k + 1, by omega, by simp, by rw [hst'.out, hmin], bw_trans hnx J⟩
        case measure => simp [intOf]; omega
end Go.Proofs.YtmdjhoknlplecaaGreatDoor
namespace Go.Proofs.YtmdjhoknlplecaaGreatDoor
open Go.RowKit Go.Shelf Go.Sort
attribute [local go_sem] Oper.semAt_some

/-- The cells of the edges that have come. -/
def segF (pts : List P2) (pre : List (Fin pts.length)) : List Value := pre.flatMap fun k => seg4 (ptAt pts k.1) (ptAt pts (nxt pts k.1))
theorem segF_snoc (pts : List P2) (pre : List (Fin pts.length)) (k : Fin pts.length) : segF pts (pre ++ [k]) = segF pts pre ++ seg4 (ptAt pts k.1) (ptAt pts (nxt pts k.1)) := by simp [segF]
theorem segR (pts : List P2) (n : Nat) : ((List.range n).flatMap fun k => seg4 (ptAt pts k) (ptAt pts (nxt pts k))) = segCells pts n := by
  induction n with
  | zero => rfl
  | succ n ih => rw [List.range_succ, List.flatMap_append, ih]; simp [segCells]
theorem segF_all (pts : List P2) : segF pts (List.finRange pts.length) = segCells pts pts.length := by
  rw [← segR]
  have : List.range pts.length = (List.finRange pts.length).map fun k => k.1 := by
    apply List.ext_getElem
    · simp
    · intro i h1 h2; simp
  rw [this, List.flatMap_map]; rfl
theorem own_base {W : World} {base base' : Nat} {e : TypeId} {size n : Nat} {v : Value} {xs : List Value} (h : W.ownsRow base e size v n xs) (hb : base' ≤ base) : W.ownsRow base' e size v n xs :=
  ⟨h.1, h.2.imp id fun ⟨g, c, cur, e1, h1, r⟩ => ⟨g, c, cur, e1, Nat.le_trans hb h1, r⟩⟩
/-- What LoopEdges answers. -/
def EdgesAns (base : Nat) (pts : List P2) (len : Nat) (e : Ending) (W' : World) : Prop :=
  (okV pts = false ∧ e = .returned (.slice none 0 0)) ∨ (okV pts = true ∧ ∃ vv, e = .returned vv ∧ W'.ownsRow base 62 4 vv len (segCells pts len))
/-- What the specification's answers. -/
def SEdgesAns (base : Nat) (pts : List P2) (len : Nat) (e : Ending) (W' : World) : Prop :=
  ∃ vv, e = .returned vv ∧ W'.ownsRow base 62 4 vv (if okV pts then len else 0) (segCells pts (if okV pts then len else 0))
end Go.Proofs.YtmdjhoknlplecaaGreatDoor
namespace Go.Proofs.YtmdjhoknlplecaaGreatDoor
open Go.RowKit Go.Sort

set_option maxRecDepth 100000 in
set_option maxHeartbeats 4000000 in
theorem boardIn_any (b : Nat) (o : RingT) (hs : List RingT) (p : P2) (w : World) (hR : RingL w.heap.size w (some ⟨b, 0, none⟩) (o :: hs)) (hok : ((o :: hs).all fun x => okV x.pts) = true) (hp : ptB p.1 p.2 = true) :
    Calls Tryz.prog 60 #[.pointer (some ⟨b, 0, none⟩), .agg #[.int .i64 p.1, .int .i64 p.2]] w fun e W' => e = .returned (.int .i64 (plI o.pts (hs.map RingT.pts) p)) ∧ Below w.heap.size w W' := by
  obtain ⟨b0, q0, t0, e0, ob, ol, oP, hR⟩ := hR
  cases e0
  rw [List.all_cons, Bool.and_eq_true] at hok
  have B0 : Below w.heap.size w (w.alloc (.cells #[.int .i64 p.1, .int .i64 p.2] 35)) := (by repeat (first | exact bw_refl _ | assumption | apply bw_drewN | apply bw_drew | apply bw_alloc | refine bw_set ?_ (by simp) _))
  obtain ⟨W, hW, BW, T⟩ : ∃ W, W = w.alloc (.cells #[.int .i64 p.1, .int .i64 p.2] 35) ∧ Below w.heap.size w W ∧ W.heap[w.heap.size]? = some (.cells #[.int .i64 p.1, .int .i64 p.2] 35) := ⟨_, rfl, (by repeat (first | exact bw_refl _ | assumption | apply bw_drewN | apply bw_drew | apply bw_alloc | refine bw_set ?_ (by simp) _)), heap_new _ _⟩
  have hpl : Hid (plI o.pts (hs.map RingT.pts) p = hs.foldl (fun s x => min s (-(inI x.pts p))) (inI o.pts p)) := by change _ = _; unfold plI; rw [List.foldl_map]
  have hall : Hid (∀ x ∈ hs, okV x.pts = true) := List.all_eq_true.1 hok.2
  have HW : Hid (∀ d os, Calls Tryz.prog 98 #[.slice o.a o.len o.cap, .agg #[.int .i64 p.1, .int .i64 p.2]] (grow (redrawn W d) os) fun e W' => e = .returned (.int .i64 (inI o.pts p)) ∧ Below (grow (redrawn W d) os).heap.size (grow (redrawn W d) os) W') := fun d os =>
    where_any o.a o.len o.cap o.pts p ol hok.1 hp _ ((oP.below (bw_trans BW (below_regrown W d os))).grow (bw_trans BW (below_regrown W d os)).size)
  obtain ⟨o0, o1, _, _⟩ := lies2 (ob.below BW)
  have o0' := cell_regrown o0
  obtain ⟨t0', t1'⟩ := reg_2 T
  have h3 := inI_3 o.pts p
  have hR1 := (hR.below BW (Nat.le_refl _)).grow BW.size
  have ob1 := ob.below BW
  clear o0 o1 hok
  generalize inI o.pts p = u0 at *
  go_enter Tryz.func60, Tryz.ntmps60
  go_upto_region 1 with fail
  rw [← hW]
  clear hW
  refine wp_region_quiet_below (by kernel_rfl) (by kernel_rfl) ?_
  repeat (first | go_big_quiet_step (first | (go_at_call 98; with_reducible exact Calls.regrown_of (HW.out _ _))))
  refine wpQuiet_nil ?_
  intro _ hw'
  obtain ⟨⟨dq, osq⟩, hw''⟩ := hw'
  subst hw''
  have J := below_regrown W dq osq
  generalize grow (redrawn W dq) osq = v at J ⊢
  obtain ⟨o0, o1, _, _⟩ := lies2 (ob1.below J)
  have K := bw_trans BW J
  replace T := keep J T
  have hR2 := (hR1.below J (Nat.le_refl _)).grow J.size
  clear HW t0' t1' o0' hR1 hR
  go_wp2_with fail
  go_loopw [5, 6] (fun s q wr => ∃ (u : Int) (q' : Option Addr) (rest : List RingT), s = .int .i64 u ∧ q = .pointer q' ∧ (-1 ≤ u ∧ u ≤ 1) ∧ RingL wr.heap.size wr q' rest ∧ (∀ x ∈ rest, okV x.pts = true) ∧ hs.foldl (fun s x => min s (-(inI x.pts p))) u0 = rest.foldl (fun s x => min s (-(inI x.pts p))) u ∧ Below v.heap.size v wr) (fun _ q wr => ringsLeft wr q)
  case atStart => exact ⟨u0, q0, hs, rfl, rfl, by omega, hR2, hall.out, rfl, bw_refl _⟩
  case round =>
    obtain ⟨u, q', rest, rfl, rfl, hu, hL, hak, he, hnx⟩ := hrel
    cases rest with
    | nil =>
      obtain rfl : q' = none := hL
      have e1 : Hid (plI o.pts (hs.map RingT.pts) p = u) := by change _ = _; rw [hpl.out, he]; rfl
      clear he
      go_wp2_with fail
      go_ret
      exact ⟨ret_int e1.out.symm, bw_trans K hnx⟩
    | cons y ys =>
      have hL' := hL
      obtain ⟨b1, q1, t1, rfl, hb, hlen, hP, hr⟩ := hL
      obtain ⟨d0, d1, _, _⟩ := lies2 hb
      have d0' := cell_regrown d0
      have d1' := cell_regrown d1
      obtain ⟨t0', t1'⟩ := reg_2 (keep hnx T)
      have y3 := inI_3 y.pts p
      have HW : Hid (∀ d os, Calls Tryz.prog 98 #[.slice y.a y.len y.cap, .agg #[.int .i64 p.1, .int .i64 p.2]] (grow (redrawn wr d) os) fun e W' => e = .returned (.int .i64 (inI y.pts p)) ∧ Below (grow (redrawn wr d) os).heap.size (grow (redrawn wr d) os) W') := fun d os =>
        where_any y.a y.len y.cap y.pts p hlen (hak y (by simp)) hp _ ((hP.below (below_regrown wr d os)).grow (below_regrown wr d os).size)
      have he1 : Hid (hs.foldl (fun s x => min s (-(inI x.pts p))) u0 = ys.foldl (fun s x => min s (-(inI x.pts p))) (min u (-(inI y.pts p)))) := he
      clear he
      generalize inI y.pts p = u1 at *
      have nu : IntKind.i64.wrap (-u1) = -u1 := wrap_small (by omega) (by omega)
      clear d0 d1
      by_cases hm : -u1 < u
      · have hmin : min u (-u1) = -u1 := by omega
        go_wp2_with fail
        refine wp_region_quiet_below (by kernel_rfl) (by kernel_rfl) ?_
        repeat (first | go_big_quiet_step (first | (go_at_call 98; with_reducible exact Calls.regrown_of (HW.out _ _))))
        refine wpQuiet_nil ?_
        intro _ hw'
        obtain ⟨⟨dq, osq⟩, hw''⟩ := hw'
        subst hw''
        have J := below_regrown wr dq osq
        generalize grow (redrawn wr dq) osq = v2 at J ⊢
        obtain ⟨d0, d1, _, _⟩ := lies2 (hb.below J)
        go_wp2_with fail
        go_roundw
        case rel => exact ⟨-u1, q1, ys, rfl, rfl, by omega, (hr.below J (Nat.le_refl _)).grow J.size, fun x hx => hak x (by simp [hx]), by rw [he1.out, hmin], bw_trans hnx J⟩
        case measure => rw [ringsLeft_eq (hr.below J (Nat.le_refl _)), ringsLeft_eq hL']; simp
      · have hmin : min u (-u1) = u := by omega
        go_wp2_with fail
        refine wp_region_quiet_below (by kernel_rfl) (by kernel_rfl) ?_
        repeat (first | go_big_quiet_step (first | (go_at_call 98; with_reducible exact Calls.regrown_of (HW.out _ _))))
        refine wpQuiet_nil ?_
        intro _ hw'
        obtain ⟨⟨dq, osq⟩, hw''⟩ := hw'
        subst hw''
        have J := below_regrown wr dq osq
        generalize grow (redrawn wr dq) osq = v2 at J ⊢
        obtain ⟨d0, d1, _, _⟩ := lies2 (hb.below J)
        go_wp2_with fail
        go_roundw
        case rel => exact ⟨u, q1, ys, rfl, rfl, by omega, (hr.below J (Nat.le_refl _)).grow J.size, fun x hx => hak x (by simp [hx]), by rw [he1.out, hmin], bw_trans hnx J⟩
        case measure => rw [ringsLeft_eq (hr.below J (Nat.le_refl _)), ringsLeft_eq hL']; simp
set_option maxRecDepth 100000 in
set_option maxHeartbeats 1000000 in
theorem plateIn_any (a ah : Option Addr) (la ca nh ch : Nat) (o : List P2) (hs : List (List P2)) (p : P2) (w : World) (h : Plt w a la ah nh o hs) :
    Calls Tryz.prog 23 #[.agg #[.slice a la ca, .slice ah nh ch], .agg #[.int .i64 p.1, .int .i64 p.2]] w fun e W' => e = .returned (.int .i64 (plInV o hs p)) ∧ Below w.heap.size w W' := by
  obtain ⟨W, hW, BW, TP, T⟩ := boxes2 w (.cells #[.slice a la ca, .slice ah nh ch] 33) (.cells #[.int .i64 p.1, .int .i64 p.2] 35)
  have hh := h.below BW
  obtain ⟨t0, t1⟩ := blk_2 TP
  have zP := blk_lt TP
  cases hv : plV o hs
  · have e1 : Hid (plInV o hs p = -1) := by change _ = _; unfold plInV; rw [hv]; rfl
    go_enter Tryz.func23, Tryz.ntmps23
    go_upto_region 1 with fail
    rw [← hW]
    clear hW
    go_wp2_with fail
    refine (board_any a ah la ca nh ch o hs _ hh).mono ?_
    rw [hv]
    rintro e w1 ⟨q, rfl, J, _⟩
    go_wp2_with fail
    go_ret
    exact ⟨ret_int e1.out.symm, bw_trans BW J⟩
  cases hp : ptB p.1 p.2
  · have e1 : Hid (plInV o hs p = -1) := by change _ = _; unfold plInV; rw [hv, hp]; rfl
    go_enter Tryz.func23, Tryz.ntmps23
    go_upto_region 1 with fail
    rw [← hW]
    clear hW
    go_wp2_with fail
    refine (board_any a ah la ca nh ch o hs _ hh).mono ?_
    rw [hv]
    rintro e w1 ⟨q, rfl, J, _⟩
    replace T := keep J T
    clear t0 t1
    obtain ⟨t0, t1⟩ := blk_2 T
    go_wp2_with fail
    refine (pt_raw p _).mono ?_
    rw [hp]
    rintro e w2 ⟨rfl, J2⟩
    go_wp2_with fail
    go_ret
    exact ⟨ret_int e1.out.symm, bw_trans (bw_trans BW J) J2⟩
  · have e1 : Hid (plInV o hs p = plI o hs p) := by change _ = _; unfold plInV; rw [hv, hp]; rfl
    have L := (plV_iff o hs).1 hv
    go_enter Tryz.func23, Tryz.ntmps23
    go_upto_region 1 with fail
    rw [← hW]
    clear hW
    go_wp2_with fail
    refine (board_any a ah la ca nh ch o hs _ hh).mono ?_
    rintro e w1 ⟨q, rfl, J, hR⟩
    obtain ⟨b, xs, rfl, hR, hx⟩ := hR hv
    rw [hv]
    replace T := keep J T
    clear t0 t1
    obtain ⟨t0, t1⟩ := blk_2 T
    go_wp2_with fail
    refine (pt_raw p _).mono ?_
    rw [hp]
    rintro e w2 ⟨rfl, J2⟩
    replace T := keep J2 T
    clear t0 t1
    obtain ⟨t0, t1⟩ := blk_2 T
    have hall : ((⟨a, la, ca, o⟩ :: xs : List RingT).all fun x => okV x.pts) = true := by
      rw [List.all_eq_true]
      intro x hx'
      rcases List.mem_cons.1 hx' with e | e
      · subst e; exact L.out
      · exact L.ok _ (by rw [← hx]; exact List.mem_map.2 ⟨x, e, rfl⟩)
    go_wp2_with fail
    refine (boardIn_any b ⟨a, la, ca, o⟩ xs p w2 ((hR.below J2 (Nat.le_refl _)).grow J2.size) hall hp).mono ?_
    rw [hx]
    rintro e w3 ⟨rfl, J3⟩
    go_wp2_with fail
    go_ret
    exact ⟨ret_int e1.out.symm, bw_trans (bw_trans (bw_trans BW J) J2) J3⟩
end Go.Proofs.YtmdjhoknlplecaaGreatDoor
namespace Go.Proofs.YtmdjhoknlplecaaGreatDoor
open Go.RowKit Go.Shelf Go.Sort
attribute [local go_sem] Oper.semAt_some

set_option maxRecDepth 100000 in
set_option maxHeartbeats 4000000 in
theorem appendSeq_in (n : Nat) (hn : 10 ≤ n) (B : Nat) (q : Option Addr) (rs : List RingT) (w : World) (hB : w.cell? ⟨B, 0, none⟩ = some (.pointer q)) (hR : RingN w.heap.size w q rs) (hes : (edgR rs).length ≤ 1000) :
    CallsIn Fence.wide n Tryz.prog 101 #[.slice none 0 0, .func (.func 102) #[] #[.pointer (some ⟨B, 0, none⟩)]] w fun e W' => ∃ v, e = .returned v ∧ W'.ownsRow w.heap.size 62 4 v (edgR rs).length (cellsS (edgR rs)) ∧ Below w.heap.size w W' := by
  obtain ⟨i0, hi0, hz0, hz1, hz2⟩ := info_parts Tryz.infoSeg
  have h1 : 1 ≤ n := by omega
  have hmx : Tryz.prog.follows .mixedOrders = true := by kernel_rfl
  have hseq := ringE_seq (n - 1) (by omega) B w.heap.size q rs w hB (Nat.le_refl _) hR
  refine callsIn_of_wp_marks Tryz.func101 rfl trivial ?_ rfl
  simp only [Tryz.ntmps101, List.size_toArray, List.length_cons, List.length_nil, Nat.reduceAdd, Nat.reduceSub, Array.replicate_succ, Array.replicate_zero, List.push_toArray, List.append_toArray, List.nil_append, List.cons_append]
  gi_wp2
  have M : Boxed (w.alloc (.cells #[.slice none 0 0] 58)) w.heap.size 58 (.slice none 0 0) := Lies.new w _ _
  have hB0 : Below w.heap.size w (w.alloc (.cells #[.slice none 0 0] 58)) := (by repeat (first | exact bw_refl _ | assumption | apply bw_drewN | apply bw_drew | apply bw_alloc | refine bw_set ?_ (by simp) _))
  have hsz : (w.alloc (.cells #[.slice none 0 0] 58)).heap.size = w.heap.size + 1 := by simp
  obtain ⟨W0, hW0⟩ : ∃ W0, w.alloc (.cells #[.slice none 0 0] 58) = W0 := ⟨_, rfl⟩
  rw [hW0] at M hB0 hsz ⊢
  clear hW0
  refine wpIn_rangeO rfl h1 (gf := 102) (lb := #[.pointer (some ⟨B, 0, none⟩)]) rfl trivial (enters_of Tryz.func102 (by kernel_rfl) rfl)
    hseq KT_t (KT_b (by omega)) hB0 (fun _ => rfl)
    (fun pre W => ((∃ vv, Boxed W w.heap.size 58 vv ∧ W.ownsRow w.heap.size 62 4 vv pre.length (cellsS pre) ∧ True)) ∧ Below w.heap.size w W)
    (OwnFrom.and (Own.from (holdsRow_own w.heap.size w.heap.size 58 62 4 (fun pre => pre.length) (fun pre => cellsS pre) (fun _ _ => True)) _) (ownFrom_below (Nat.le_refl _) (by omega)))
    ⟨⟨_, M, ⟨rfl, .inl ⟨rfl, rfl⟩⟩, trivial⟩, hB0⟩
    (fun x a' W => ∃ Bx, Lies Bx #[.int .i64 x.1.1, .int .i64 x.1.2, .int .i64 x.2.1, .int .i64 x.2.2] 62 W ∧ a' = { tmps := #[.slice none 0 0, .func (.func 102) #[] #[.pointer (some ⟨B, 0, none⟩)], .pointer (some ⟨w.heap.size, 0, none⟩), undef, .slice none 0 0, .pointer (some ⟨Bx, 0, none⟩), .func (.func 102) #[] #[.pointer (some ⟨B, 0, none⟩)], .agg #[.int .i64 x.1.1, .int .i64 x.1.2, .int .i64 x.2.1, .int .i64 x.2.2], undef, undef, undef, undef, undef], defers := [] })
    (fun x a' _ X Y row hs hg hr => by obtain ⟨Bx, e2, e3⟩ := hs; exact ⟨Bx, lies_own (β := Unit) Bx _ _ () X Y row e2 hg (fun r e => (hr r e).2), e3⟩)
    ?assign ?body ?done
  case assign =>
    rintro l pre x W K ⟨⟨vv, M0, hr0, _⟩, hB1⟩ hK
    unfold segE
    have hB3 : Below W.heap.size W (W.alloc (.cells #[.int .i64 x.1.1, .int .i64 x.1.2, .int .i64 x.2.1, .int .i64 x.2.2] 62)) := (by repeat (first | exact bw_refl _ | assumption | apply bw_drewN | apply bw_drew | apply bw_alloc | refine bw_set ?_ (by simp) _))
    gi_wp2
    exact hK _ _ ((KeepsOthers.alloc _ _).from _) (KT.of_below hB3 hB1.size) ⟨⟨vv, M0.alloc _, hr0.alloc _, trivial⟩, hB1.alloc hB1.size _⟩ ⟨W.heap.size, Lies.new W _ _, rfl⟩
  case body =>
    rintro l pre x a' W hl2 ⟨⟨vv, M0, hr0, _⟩, hB1⟩ ⟨Bx, bX, rfl⟩ hlt
    have c0 := M0.cell
    obtain ⟨cx0, cx1, cx2, cx3⟩ := bX.c4
    have h1' : 1 ≤ n - 1 - 1 := by omega
    have hzW := hB1.size
    gi_wp2_with (gi_at_builtin; refine wpListIn_append_own _ rfl _ _ 58 rfl w.heap.size 62 i0 _ 4 32 Tryz.underlying58 hi0 hz0 hz1 hz2 rfl (by decide) _ _ _ rfl (hr0.alloc _) ⟨W.heap.size, 0, none⟩ 1 1 (seg4 x.1 x.2) rfl rfl (World.news_of_block (cs := #[.int .i64 x.1.1, .int .i64 x.1.2, .int .i64 x.2.1, .int .i64 x.2.2]) (t := 62) (fr := (0, 0)) (heap_alloc_new W _)) (by simp [seg4, Value.oneCell']) (by simp [maxLen]; omega) (by omega) (by simp; omega) ?_; intro v' w1 hown' hgrow _; obtain ⟨g', cap', rfl⟩ := ownsRow_succ hown'; obtain ⟨hv1, hv2, hr2, hk2, hb2⟩ := M0.appended (by decide) hr0 hB1.size (by omega) hown' hgrow; have hc1 := hv1.cell; have hf1 := hv1.frozen)
    have hkt : KT w.heap.size W (w1.setCell ⟨w.heap.size, 0, none⟩ (.slice (some ⟨g', 0, none⟩) (pre.length + 1) cap')) := by
      refine ⟨hb2, fun k cs t ht h => ?_⟩
      have hk := (Array.getElem?_eq_some_iff.1 h).1
      have h2 : (W.alloc (.cells #[.int .i64 x.1.1, .int .i64 x.1.2, .int .i64 x.2.1, .int .i64 x.2.2] 62)).heap[k]? = some (.cells cs t (0, 0)) := (Below.heap_alloc W _ k hk).trans h
      have h3 : w1.heap[k]? = some (.cells cs t (0, 0)) := by
        refine (hgrow.block k (by simp; omega) (fun e => ?_)).trans h2
        rcases hr0.2 with ⟨e1, _⟩ | ⟨g0, c0', cur0, e1, _, hg0, _⟩
        · subst e1; cases e
        · subst e1
          have e' : k = g0 := Option.some.inj e
          rw [e', hg0] at h
          rcases ht with rfl | rfl <;> simp at h
      refine (Below.heap_setCell _ _ _ k (fun e => ?_)).trans h3
      have e' : k = w.heap.size := e
      rw [e', show W.heap[w.heap.size]? = _ from M0] at h
      rcases ht with rfl | rfl <;> simp at h
    exact ⟨hk2.from _, hkt, ⟨_, hv2, by rw [cellsS_append, List.length_append, List.length_singleton]; simpa [cellsS] using hr2, trivial⟩, hB1.trans hb2⟩
  case done =>
    rintro D W hD ⟨⟨vv, M0, hr0, _⟩, hB1⟩ hK
    have cR := M0.cell
    gi_wp2
    refine ⟨by simp, .inl ⟨_, _, rfl, run_takeDeferred hK, ?_⟩⟩
    exact ⟨vv, by simp [results, Tryz.results101, go_sem], vv, rfl, ownsRow_putObj hr0 _ hK rfl, hB1.trans (belowK_b (w := w) (Nat.le_refl _) _ D _ _ (by omega) hK rfl rfl)⟩
end Go.Proofs.YtmdjhoknlplecaaGreatDoor
namespace Go.Proofs.YtmdjhoknlplecaaGreatDoor
open Go.RowKit Go.Sort

/-- The edges that are told of a loop. -/
def edgV (l : List P2) : List (P2 × P2) := if okV l then segsL l else []
theorem edgV_len (l : List P2) : (edgV l).length ≤ 8 := by
  unfold edgV
  cases h : okV l
  · simp
  · have := ((okV_iff l).1 h).hi; rw [if_pos rfl, segsL_len]; omega
theorem PtBlk.own {W : World} {g c n : Nat} {l : List P2} (h : PtBlk W g c l n) : Own W g (c * 2) 35 := by obtain ⟨cur, h, hs, _⟩ := h; exact ⟨cur, h, hs⟩
end Go.Proofs.YtmdjhoknlplecaaGreatDoor
namespace Go.Proofs.YtmdjhoknlplecaaGreatDoor
open Go.RowKit Go.Shelf Go.Sort

theorem collect_any (B : Nat) (q : Option Addr) (rs : List RingT) (w : World) (hB : w.cell? ⟨B, 0, none⟩ = some (.pointer q)) (hR : RingN w.heap.size w q rs) (hes : (edgR rs).length ≤ 1000) :
    Calls Tryz.prog 65 #[.func (.func 102) #[] #[.pointer (some ⟨B, 0, none⟩)]] w fun e W' => ∃ v, e = .returned v ∧ W'.ownsRow w.heap.size 62 4 v (edgR rs).length (cellsS (edgR rs)) ∧ Below w.heap.size w W' := by
  have hcall := callsIn_wide.1 (appendSeq_in 10 (Nat.le_refl _) B q rs w hB hR hes)
  go_enter Tryz.func65, Tryz.ntmps65
  go_wp2_with fail
  refine hcall.mono ?_
  rintro e w1 ⟨v, rfl, ho, J⟩
  go_wp2_with fail
  go_ret
  exact ⟨v, rfl, ho, J⟩
set_option maxRecDepth 100000 in
set_option maxHeartbeats 2000000 in
theorem plateEdges_ans (a ah : Option Addr) (la ca nh ch : Nat) (o : List P2) (hs : List (List P2)) (w : World) (h : Plt w a la ah nh o hs) :
    Calls Tryz.prog 29 #[.agg #[.slice a la ca, .slice ah nh ch]] w fun e W' => ∃ v, e = .returned v ∧ AnsS w.heap.size W'.heap.size W' v (plE o hs) ∧ Below w.heap.size w W' := by
  have B0 : Below w.heap.size w (w.alloc (.cells #[.slice a la ca, .slice ah nh ch] 33)) := (by repeat (first | exact bw_refl _ | assumption | apply bw_drewN | apply bw_drew | apply bw_alloc | refine bw_set ?_ (by simp) _))
  have hlen := plE_len o hs
  cases hv : plV o hs
  · go_enter Tryz.func29, Tryz.ntmps29
    go_wp2_with fail
    refine (board_any a ah la ca nh ch o hs _ (h.below B0)).mono ?_
    rw [hv]
    rintro e w1 ⟨p, rfl, J, _⟩
    go_wp2_with fail
    go_ret
    exact ⟨_, rfl, .inl ⟨by unfold plE; rw [hv]; rfl, _, _, rfl⟩, bw_trans B0 J⟩
  · have hE : plE o hs = segsL o ++ hs.flatMap segsL := by unfold plE; rw [hv]; rfl
    go_enter Tryz.func29, Tryz.ntmps29
    go_wp2_with fail
    refine (board_any a ah la ca nh ch o hs _ (h.below B0)).mono ?_
    rintro e w1 ⟨p, rfl, J, hR⟩
    obtain ⟨b, xs, rfl, hR, hx⟩ := hR hv
    rw [hv]
    have K1 := bw_trans B0 J
    have hedg := edgR_eq ⟨a, la, ca, o⟩ xs hs hx
    rw [← hE] at hedg
    go_wp2_with fail
    refine (callsIn_wide.1 (ringEdges_in 10 (some ⟨b, 0, none⟩) w1)).mono ?_
    rintro e w2 ⟨rfl, rfl⟩
    have B1 : Below w1.heap.size w1 (w1.alloc (.cells #[.pointer (some ⟨b, 0, none⟩)] 110)) := (by repeat (first | exact bw_refl _ | assumption | apply bw_drewN | apply bw_drew | apply bw_alloc | refine bw_set ?_ (by simp) _))
    have hRN := RingL.ringN (Nat.le_refl _) (RingL.grow B1.size (RingL.below B1 (Nat.le_refl _) hR))
    go_wp2_with fail
    refine (collect_any w1.heap.size (some ⟨b, 0, none⟩) (⟨a, la, ca, o⟩ :: xs) _ (Lies.c1 (Lies.new w1 _ _)) hRN (by rw [hedg]; omega)).mono ?_
    rw [hedg]
    rintro e w3 ⟨v, rfl, ho, J3⟩
    go_wp2_with fail
    go_ret
    have zz := K1.size
    exact ⟨v, rfl, ansS_mono (AnsS.of_owns ho rfl) (by simp; omega), bw_trans K1 (bw_trans B1 J3)⟩
end Go.Proofs.YtmdjhoknlplecaaGreatDoor
namespace Go.Proofs.YtmdjhoknlplecaaGreatDoor
open Go.RowKit Go.Sort

theorem sEdges_pts (a1 : Option Addr) (len1 cap1 : Nat) (l1 : List P2) (ok1 : okV l1 = true) (w : World) (hP1 : Pts w.heap.size w a1 len1 l1) :
    Calls Tryz.prog 77 #[.slice a1 len1 cap1] w fun e w' => ∃ g c, e = .returned (.slice (some ⟨g, 0, none⟩) len1 c) ∧ w'.ownsRow w.heap.size 62 4 (.slice (some ⟨g, 0, none⟩) len1 c) len1 (cellsS (segsL l1)) ∧ Below w.heap.size w w' := by
  have h1 := okV_pos ok1
  obtain ⟨e1, c1⟩ := hP1
  rcases c1 with h0 | ⟨b1, off1, rfl, hb1, hc1⟩
  · omega
  refine (sEdges_ok b1 off1 len1 cap1 l1 w e1 (by omega) (by omega) hb1 hc1).mono ?_
  rintro e w' ⟨v, rfl, ho, J⟩
  rw [← e1, ← segsL_cells, e1] at ho
  have ho' := ho
  rcases ho.2 with ⟨_, h0⟩ | ⟨g, c, cur, rfl, _⟩
  · omega
  · exact ⟨g, c, rfl, ho', J⟩
theorem cellsS_one (ss : List (P2 × P2)) : ∀ u ∈ cellsS ss, u.oneCell' = true := by
  intro u hu
  simp only [cellsS, List.mem_flatMap, seg4] at hu
  obtain ⟨s, _, hs⟩ := hu
  simp at hs
  rcases hs with rfl | rfl | rfl | rfl <;> rfl
set_option maxRecDepth 100000 in
set_option maxHeartbeats 4000000 in
theorem l11Edges_ok (a ah : Option Addr) (la ca nh ch : Nat) (o : List P2) (hs : List (List P2)) (hv : plV o hs = true) (w : World) (h : Plt w a la ah nh o hs) :
    Calls Tryz.prog 37 #[.agg #[.slice a la ca, .slice ah nh ch]] w fun e W' => ∃ v, e = .returned v ∧ W'.ownsRow w.heap.size 62 4 v (plE o hs).length (cellsS (plE o hs)) ∧ Below w.heap.size w W' := by
  obtain ⟨i0, hi0, hz0, hz1, hz2⟩ := info_parts Tryz.infoSeg
  obtain ⟨W, hW, BW, TP⟩ : ∃ W, W = w.alloc (.cells #[.slice a la ca, .slice ah nh ch] 33) ∧ Below w.heap.size w W ∧ W.heap[w.heap.size]? = some (.cells #[.slice a la ca, .slice ah nh ch] 33 (0, 0)) := ⟨_, rfl, (by repeat (first | exact bw_refl _ | assumption | apply bw_drewN | apply bw_drew | apply bw_alloc | refine bw_set ?_ (by simp) _)), heap_new _ _⟩
  have hPV := (plV_iff o hs).1 hv
  obtain ⟨hla, hP, hlen, A, L, C, hS, hH⟩ := h.below BW
  have HO := sEdges_pts a la ca o hPV.out W hP
  have HOK : Hid (∀ j, j < nh → okV (hs[j]?.getD []) = true) := fun j hj => hPV.ok _ (by rw [List.getElem?_eq_getElem (by omega), Option.getD_some]; exact List.getElem_mem _)
  have HE : Hid (plE o hs = segsL o ++ (hs.take nh).flatMap segsL) := by change _ = _; unfold plE; rw [hv, if_pos rfl, ← hlen, List.take_length]
  have HT : Hid (∀ k, k < nh → (hs.take (k + 1)).flatMap segsL = (hs.take k).flatMap segsL ++ segsL (hs[k]?.getD [])) := fun k hk => by
    rw [List.take_add_one, List.flatMap_append, List.getElem?_eq_getElem (by omega)]; simp
  have HB : Hid (∀ k, k ≤ nh → (segsL o ++ (hs.take k).flatMap segsL).length ≤ 24) := fun k hk => by
    have h0 := (okV_pos hPV.out).2
    have h2 := flat_len (hs.take k) (fun x hx => (okV_pos (hPV.ok x (List.mem_of_mem_take hx))).2)
    have h3 := hPV.len
    rw [List.length_append, segsL_len]; rw [List.length_take] at h2; omega
  have hl0 : Hid (la = (segsL o).length) := by change _ = _; rw [segsL_len]; exact hP.1.symm
  have hnh : nh ≤ 2 := by have := hPV.len; omega
  clear hlen hPV hv h
  obtain ⟨t0, t1⟩ := blk_2 TP
  have zP := blk_lt TP
  go_enter Tryz.func37, Tryz.ntmps37
  go_upto_region 1 with fail
  rw [← hW]
  clear hW
  go_wp2_with fail
  refine HO.mono ?_
  rintro e v ⟨g0, c0, rfl, ho0, J⟩
  have ho1 : v.ownsRow W.heap.size 62 4 (.slice (some ⟨g0, 0, none⟩) la c0) (segsL o ++ (hs.take 0).flatMap segsL).length (cellsS (segsL o ++ (hs.take 0).flatMap segsL)) := by
    have e0 := hl0.out; simp only [List.take_zero, List.flatMap_nil, List.append_nil]; rw [← e0]; exact ho0
  clear HO t0 t1 ho0
  go_wp2_with fail
  go_loopw [3, 4] (fun out i wr => ∃ k : Nat, k ≤ nh ∧ i = .int .i64 k ∧ wr.ownsRow W.heap.size 62 4 out (segsL o ++ (hs.take k).flatMap segsL).length (cellsS (segsL o ++ (hs.take k).flatMap segsL)) ∧ Below W.heap.size W wr) (fun _ i _ => nh - (intOf i).toNat)
  case atStart => exact ⟨0, Nat.zero_le _, rfl, ho1, J⟩
  case round =>
    obtain ⟨k, hk, rfl, hown, hnx⟩ := hrel
    obtain ⟨t0, t1⟩ := blk_2 (keep hnx TP)
    have zz := hnx.size
    by_cases hlt : k < nh
    case neg =>
      obtain rfl : nh = k := by omega
      rw [← HE.out] at hown
      go_wp2_with fail
      go_ret
      exact ⟨_, rfl, own_base hown BW.size, bw_trans BW hnx⟩
    case pos =>
      rcases hS.below hnx with h0 | ⟨b, off, rfl, hbl, hcs⟩
      · omega
      have c1 := hcs k hlt
      clear hcs
      have j0 : (0 : Int) ≤ (k : Int) := Int.natCast_nonneg _
      have j1 : (k : Int) < (nh : Int) := by omega
      obtain ⟨hLk, hPk⟩ := hH k hlt
      have hokk := HOK.out k hlt
      have hcall := sEdges_pts (A k) (L k) (C k) _ hokk wr ((hPk.below hnx).grow hnx.size)
      have hlk : (segsL (hs[k]?.getD [])).length = L k := by rw [segsL_len]; exact hPk.1
      have hbk := HB.out k hk
      have hbk1 := HB.out (k + 1) hlt
      rw [HT.out k hlt, ← List.append_assoc, List.length_append, hlk] at hbk1
      have hl1 : (segsL o ++ (hs.take k).flatMap segsL).length + L k = (segsL o ++ (hs.take (k + 1)).flatMap segsL).length := by rw [HT.out k hlt, ← List.append_assoc, List.length_append (bs := segsL _), hlk]
      have hc1 : cellsS (segsL o ++ (hs.take (k + 1)).flatMap segsL) = cellsS (segsL o ++ (hs.take k).flatMap segsL) ++ cellsS (segsL (hs[k]?.getD [])) := by rw [HT.out k hlt, ← List.append_assoc, cellsS_append _ (segsL _)]
      have HL1 : Hid ((segsL o ++ (hs.take k).flatMap segsL).length + L k = (segsL o ++ (hs.take (k + 1)).flatMap segsL).length) := hl1
      have HC1 : Hid (cellsS (segsL o ++ (hs.take (k + 1)).flatMap segsL) = cellsS (segsL o ++ (hs.take k).flatMap segsL) ++ cellsS (segsL (hs[k]?.getD []))) := hc1
      have HLK : Hid ((cellsS (segsL (hs[k]?.getD []))).length = L k * 4) := by change _ = _; rw [cellsS_len, hlk]
      have hm1 : (segsL o ++ (hs.take k).flatMap segsL).length + L k ≤ 24 := by rw [hl1]; exact HB.out (k + 1) hlt
      clear hl1 hc1 hbk1 hlk
      go_wp2_with (first
        | (go_at_call 77; refine hcall.mono ?_; rintro e w7 ⟨g7, c7, rfl, ho7, J7⟩; have hown7 := hown.kept (w' := w7) (row := none) ⟨J7.os, J7.tape, J7.output, J7.size, fun j hj _ => J7.block j hj⟩ (Classical.em _); have hn7 := bw_trans hnx J7; have zz7 := hn7.size)
        | (at_builtin; refine wpList_append_own_wide _ rfl _ _ _ rfl W.heap.size 62 i0 _ 4 32 Tryz.underlying58 hi0 hz0 hz1 hz2 rfl (by omega) _ _ _ rfl hown7 ⟨g7, 0, none⟩ (L k) c7 (cellsS (segsL (hs[k]?.getD []))) rfl HLK.out (ho7.cells (g := g7) rfl) (cellsS_one _) (by simp [maxLen] at hm1 ⊢; omega) (by omega) (by omega) ?_; intro v8 w8 hown8 hgr8 hnil8))
      go_roundw
      case rel => exact ⟨k + 1, by omega, by simp, by rw [← HL1.out, HC1.out]; exact hown8, hn7.grown hgr8 zz7 (fun j e => (hown7.lt j e).1)⟩
      case measure => simp [intOf]; omega
end Go.Proofs.YtmdjhoknlplecaaGreatDoor
namespace Go.Proofs.YtmdjhoknlplecaaGreatDoor
open Go.RowKit Go.Sort

theorem cT6 {W : World} {p m n k l : Nat} {x y z u : Value} {a0 a1 a2 a3 a4 a5 : Addr} {v0 v1 v2 v3 v4 v5 : Value} (h : W.cell? a0 = some v0 ∧ W.cell? a1 = some v1 ∧ W.cell? a2 = some v2 ∧ W.cell? a3 = some v3 ∧ W.cell? a4 = some v4 ∧ W.cell? a5 = some v5) (n0 : a0.block ≠ p) (n1 : a1.block ≠ p) (n2 : a2.block ≠ p) (n3 : a3.block ≠ p) (n4 : a4.block ≠ p) (n5 : a5.block ≠ p) : ((((W.setCell ⟨p, m, none⟩ x).setCell ⟨p, n, none⟩ y).setCell ⟨p, k, none⟩ z).setCell ⟨p, l, none⟩ u).cell? a0 = some v0 ∧ ((((W.setCell ⟨p, m, none⟩ x).setCell ⟨p, n, none⟩ y).setCell ⟨p, k, none⟩ z).setCell ⟨p, l, none⟩ u).cell? a1 = some v1 ∧ ((((W.setCell ⟨p, m, none⟩ x).setCell ⟨p, n, none⟩ y).setCell ⟨p, k, none⟩ z).setCell ⟨p, l, none⟩ u).cell? a2 = some v2 ∧ ((((W.setCell ⟨p, m, none⟩ x).setCell ⟨p, n, none⟩ y).setCell ⟨p, k, none⟩ z).setCell ⟨p, l, none⟩ u).cell? a3 = some v3 ∧ ((((W.setCell ⟨p, m, none⟩ x).setCell ⟨p, n, none⟩ y).setCell ⟨p, k, none⟩ z).setCell ⟨p, l, none⟩ u).cell? a4 = some v4 ∧ ((((W.setCell ⟨p, m, none⟩ x).setCell ⟨p, n, none⟩ y).setCell ⟨p, k, none⟩ z).setCell ⟨p, l, none⟩ u).cell? a5 = some v5 := cS6 (cS6 h n0 n1 n2 n3 n4 n5) n0 n1 n2 n3 n4 n5
theorem cellL {W : World} {o o' : Obj} {a : Addr} {v : Value} (h : (W.alloc o).cell? a = some v) (hb : a.block < W.heap.size) : (W.alloc o').cell? a = some v := by
  rw [← h]
  exact World.cell?_of_block (w := W.alloc o) ((heap_old W o' hb).trans (heap_old W o hb).symm)
theorem cL6 {W : World} {o o' : Obj} {a0 a1 a2 a3 a4 a5 : Addr} {v0 v1 v2 v3 v4 v5 : Value} (h : (W.alloc o).cell? a0 = some v0 ∧ (W.alloc o).cell? a1 = some v1 ∧ (W.alloc o).cell? a2 = some v2 ∧ (W.alloc o).cell? a3 = some v3 ∧ (W.alloc o).cell? a4 = some v4 ∧ (W.alloc o).cell? a5 = some v5) (n0 : a0.block < W.heap.size) (n1 : a1.block < W.heap.size) (n2 : a2.block < W.heap.size) (n3 : a3.block < W.heap.size) (n4 : a4.block < W.heap.size) (n5 : a5.block < W.heap.size) : (W.alloc o').cell? a0 = some v0 ∧ (W.alloc o').cell? a1 = some v1 ∧ (W.alloc o').cell? a2 = some v2 ∧ (W.alloc o').cell? a3 = some v3 ∧ (W.alloc o').cell? a4 = some v4 ∧ (W.alloc o').cell? a5 = some v5 :=
  ⟨cellL h.1 n0, cellL h.2.1 n1, cellL h.2.2.1 n2, cellL h.2.2.2.1 n3, cellL h.2.2.2.2.1 n4, cellL h.2.2.2.2.2 n5⟩
theorem cL8 {W : World} {o o' : Obj} {a0 a1 a2 a3 a4 a5 a6 a7 : Addr} {v0 v1 v2 v3 v4 v5 v6 v7 : Value} (h : (W.alloc o).cell? a0 = some v0 ∧ (W.alloc o).cell? a1 = some v1 ∧ (W.alloc o).cell? a2 = some v2 ∧ (W.alloc o).cell? a3 = some v3 ∧ (W.alloc o).cell? a4 = some v4 ∧ (W.alloc o).cell? a5 = some v5 ∧ (W.alloc o).cell? a6 = some v6 ∧ (W.alloc o).cell? a7 = some v7) (n0 : a0.block < W.heap.size) (n1 : a1.block < W.heap.size) (n2 : a2.block < W.heap.size) (n3 : a3.block < W.heap.size) (n4 : a4.block < W.heap.size) (n5 : a5.block < W.heap.size) (n6 : a6.block < W.heap.size) (n7 : a7.block < W.heap.size) : (W.alloc o').cell? a0 = some v0 ∧ (W.alloc o').cell? a1 = some v1 ∧ (W.alloc o').cell? a2 = some v2 ∧ (W.alloc o').cell? a3 = some v3 ∧ (W.alloc o').cell? a4 = some v4 ∧ (W.alloc o').cell? a5 = some v5 ∧ (W.alloc o').cell? a6 = some v6 ∧ (W.alloc o').cell? a7 = some v7 :=
  ⟨cellL h.1 n0, cellL h.2.1 n1, cellL h.2.2.1 n2, cellL h.2.2.2.1 n3, cellL h.2.2.2.2.1 n4, cellL h.2.2.2.2.2.1 n5, cellL h.2.2.2.2.2.2.1 n6, cellL h.2.2.2.2.2.2.2 n7⟩
end Go.Proofs.YtmdjhoknlplecaaGreatDoor
namespace Go.Proofs.YtmdjhoknlplecaaGreatDoor
open Go.RowKit Go.Sort

theorem inR_r (r : Int) : inR r 1 9 = rV r := by
  unfold rV; rw [Bool.eq_iff_iff]; simp [inR]
set_option maxHeartbeats 1000000 in
theorem sNear_any (ax ay bx b_y px py r : Int) (w : World) (hr : 1 ≤ r ∧ r ≤ 9) (gs : sgB ax ay bx b_y = true) (gp : ptB px py = true) :
    Calls Tryz.prog 75 #[.agg #[.int .i64 ax, .int .i64 ay, .int .i64 bx, .int .i64 b_y], .int .i64 r, .agg #[.int .i64 px, .int .i64 py]] w fun e w' => e = .returned (.bool (nearI ((ax, ay), (bx, b_y)) r (px, py))) ∧ Below w.heap.size w w' := by
  obtain ⟨pa, pb, _⟩ := sg_parts gs
  obtain ⟨r1, r9⟩ := hr
  unfold nearI
  dsimp only
  by_cases h : dt ax ay bx b_y px py ≤ 0
  · rw [if_pos h]
    go_enter Tryz.func75, Tryz.ntmps75
    go_wp2_with fail
    refine (sDot_any _ _ _ _ _ _ _ pa pb gp).mono ?_
    rintro e w1 ⟨rfl, J⟩
    obtain ⟨hc, hf⟩ := bcell J
    go_wp2_with fail
    refine (sDot_any _ _ _ _ _ _ _ pa pb pb).mono ?_
    rintro e w1 ⟨rfl, J2⟩
    replace J := bw_trans J J2
    clear hc hf J2
    obtain ⟨hc, hf⟩ := bcell J
    go_wp2_with fail
    refine (sDot_any _ _ _ _ _ _ _ pa gp gp).mono ?_
    rintro e w1 ⟨rfl, J2⟩
    replace J := bw_trans J J2
    clear hc hf J2
    obtain ⟨hc, hf⟩ := bcell J
    go_wp2_with fail
    go_ret
    exact ⟨rfl, bw_trans (by repeat (first | exact bw_refl _ | assumption | apply bw_drewN | apply bw_drew | apply bw_alloc | refine bw_set ?_ (by simp) _)) J⟩
  · rw [if_neg h]
    by_cases h2 : dt ax ay bx b_y bx b_y ≤ dt ax ay bx b_y px py
    · rw [if_pos h2]
      go_enter Tryz.func75, Tryz.ntmps75
      go_wp2_with fail
      refine (sDot_any _ _ _ _ _ _ _ pa pb gp).mono ?_
      rintro e w1 ⟨rfl, J⟩
      obtain ⟨hc, hf⟩ := bcell J
      go_wp2_with fail
      refine (sDot_any _ _ _ _ _ _ _ pa pb pb).mono ?_
      rintro e w1 ⟨rfl, J2⟩
      replace J := bw_trans J J2
      clear hc hf J2
      obtain ⟨hc, hf⟩ := bcell J
      go_wp2_with fail
      refine (sDot_any _ _ _ _ _ _ _ pb gp gp).mono ?_
      rintro e w1 ⟨rfl, J2⟩
      replace J := bw_trans J J2
      clear hc hf J2
      obtain ⟨hc, hf⟩ := bcell J
      go_wp2_with fail
      go_ret
      exact ⟨rfl, bw_trans (by repeat (first | exact bw_refl _ | assumption | apply bw_drewN | apply bw_drew | apply bw_alloc | refine bw_set ?_ (by simp) _)) J⟩
    · rw [if_neg h2]
      have d1 := crs_bd pa pb gp
      have d2 := prod_bd2 d1.1 d1.2 d1.1 d1.2
      have d3 := dt_bd pa pb pb
      have d4 : 0 < dt ax ay bx b_y bx b_y := dt_self_pos (sg_parts gs).2.2
      have d5 : IntKind.i64.wrap (crs ax ay bx b_y px py * crs ax ay bx b_y px py) = crs ax ay bx b_y px py * crs ax ay bx b_y px py := wrap_small (by omega) (by omega)
      have d6 : IntKind.i64.wrap (r * dt ax ay bx b_y bx b_y) = r * dt ax ay bx b_y bx b_y := by
        have e1 := Int.mul_le_mul_of_nonneg_right r9 (show 0 ≤ dt ax ay bx b_y bx b_y by omega)
        have e2 := Int.mul_nonneg (show 0 ≤ r by omega) (show 0 ≤ dt ax ay bx b_y bx b_y by omega)
        exact wrap_small (by omega) (by omega)
      go_enter Tryz.func75, Tryz.ntmps75
      go_wp2_with fail
      refine (sDot_any _ _ _ _ _ _ _ pa pb gp).mono ?_
      rintro e w1 ⟨rfl, J⟩
      obtain ⟨hc, hf⟩ := bcell J
      go_wp2_with fail
      refine (sDot_any _ _ _ _ _ _ _ pa pb pb).mono ?_
      rintro e w1 ⟨rfl, J2⟩
      replace J := bw_trans J J2
      clear hc hf J2
      obtain ⟨hc, hf⟩ := bcell J
      go_wp2_with fail
      refine (sCross_any _ _ _ _ _ _ _ pa pb gp).mono ?_
      rintro e w1 ⟨rfl, J2⟩
      replace J := bw_trans J J2
      clear hc hf J2
      obtain ⟨hc, hf⟩ := bcell J
      go_wp2_with fail
      go_ret
      exact ⟨rfl, bw_trans (by repeat (first | exact bw_refl _ | assumption | apply bw_drewN | apply bw_drew | apply bw_alloc | refine bw_set ?_ (by simp) _)) J⟩
end Go.Proofs.YtmdjhoknlplecaaGreatDoor
namespace Go.Proofs.YtmdjhoknlplecaaGreatDoor
open Go.RowKit Go.Sort

set_option maxRecDepth 100000 in
set_option maxHeartbeats 4000000 in
theorem sFits_ok (a ah : Option Addr) (la ca nh ch : Nat) (o : List P2) (hs : List (List P2)) (g len cap : Nat) (ss : List (P2 × P2)) (r : Int) (p : P2) (w : World) (h : Plt w a la ah nh o hs) (hv : plV o hs = true) (hr : rV r = true) (hp : ptB p.1 p.2 = true) (hS : SRow w g ss) (zg : g < w.heap.size) (hl : ss.length = len) (h2 : len ≤ 1000) (hok : ∀ s ∈ ss, sgP s.1 s.2 = true) :
    Calls Tryz.prog 36 #[.agg #[.slice a la ca, .slice ah nh ch], .slice (some ⟨g, 0, none⟩) len cap, .int .i64 r, .agg #[.int .i64 p.1, .int .i64 p.2]] w fun e W' => e = .returned (.bool ((ss.all fun s => !nearI s r p) && decide (plI o hs p = 1))) ∧ Below w.heap.size w W' := by
  obtain ⟨W, hW, BW, TP, T⟩ := boxes2 w (.cells #[.slice a la ca, .slice ah nh ch] 33) (.cells #[.int .i64 p.1, .int .i64 p.2] 35)
  have hr' := (rV_iff r).1 hr
  obtain ⟨F, hF⟩ : ∃ F : Nat → Bool, F = fun k => nearI (sAt ss k) r p := ⟨_, rfl⟩
  have HF : Hid (∀ k, k < len → ∀ w, Calls Tryz.prog 75 #[.agg #[.int .i64 (sAt ss k).1.1, .int .i64 (sAt ss k).1.2, .int .i64 (sAt ss k).2.1, .int .i64 (sAt ss k).2.2], .int .i64 r, .agg #[.int .i64 p.1, .int .i64 p.2]] w fun e w' => e = .returned (.bool (F k)) ∧ Below w.heap.size w w') := fun k hk w => by
    rw [hF]
    exact sNear_any _ _ _ _ _ _ r w hr' (hok _ (sAt_mem (by omega))) hp
  have HA : Hid ((ss.all fun s => !nearI s r p) = true ↔ ∀ k, k < len → F k = false) := by
    change _ ↔ _
    rw [hF, List.all_eq_true]
    constructor
    · intro h k hk; simpa using h _ (sAt_mem (show k < ss.length by omega))
    · intro h s hs
      obtain ⟨k, hk, rfl⟩ := List.getElem_of_mem hs
      have this : nearI (sAt ss k) r p = false := h k (by omega)
      rw [show sAt ss k = ss[k] by unfold sAt; rw [List.getElem?_eq_getElem hk, Option.getD_some]] at this
      rw [this]; rfl
  have HS : Hid (∀ k, k < len → w.cell? ⟨g, k * 4, none⟩ = some (.int .i64 (sAt ss k).1.1) ∧ w.cell? ⟨g, k * 4 + 1, none⟩ = some (.int .i64 (sAt ss k).1.2) ∧ w.cell? ⟨g, k * 4 + 2, none⟩ = some (.int .i64 (sAt ss k).2.1) ∧ w.cell? ⟨g, k * 4 + 3, none⟩ = some (.int .i64 (sAt ss k).2.2)) := fun k hk => hS k (by omega)
  have HP : Hid (∀ V, Below w.heap.size w V → Calls Tryz.prog 76 #[.agg #[.slice a la ca, .slice ah nh ch], .agg #[.int .i64 p.1, .int .i64 p.2]] V fun e W' => e = .returned (.int .i64 (plI o hs p)) ∧ Below V.heap.size V W') := fun V hV => sPlI_ok a ah la ca nh ch o hs p hv hp V (h.below hV)
  generalize (ss.all fun s => !nearI s r p) = al at *
  generalize plI o hs p = u at *
  clear hF hok hl hS hr hv h hp
  go_enter Tryz.func36, Tryz.ntmps36
  go_upto_region 1 with fail
  rw [← hW]
  clear hW
  go_wp2_with fail
  go_loopw [9] (fun i wr => ∃ k : Nat, k ≤ len ∧ i = .int .i64 k ∧ (∀ j, j < k → F j = false) ∧ Below W.heap.size W wr) (fun i _ => len - (intOf i).toNat)
  case atStart => exact ⟨0, Nat.zero_le _, rfl, fun j hj => absurd hj (Nat.not_lt_zero _), bw_refl _⟩
  case round =>
    obtain ⟨k, hk, rfl, hb, hnx⟩ := hrel
    have HB : Hid (∀ j, j < k → F j = false) := hb
    clear hb
    have KW := bw_trans BW hnx
    have zn := hnx.size
    by_cases hlt : k < len
    case pos =>
      obtain ⟨s0, s1, s2, s3⟩ := HS.out k hlt
      obtain ⟨d0, d1, d2, d3⟩ := regrow4 ⟨(KW.cell (p := ⟨g, k * 4, none⟩) zg).trans s0, (KW.cell (p := ⟨g, k * 4 + 1, none⟩) zg).trans s1, (KW.cell (p := ⟨g, k * 4 + 2, none⟩) zg).trans s2, (KW.cell (p := ⟨g, k * 4 + 3, none⟩) zg).trans s3⟩
      obtain ⟨t0, t1⟩ := reg_2 (keep hnx T)
      have i0 : (0 : Int) ≤ (k : Int) := Int.natCast_nonneg _
      have i1 : (k : Int) < (len : Int) := by omega
      have i2 : (k : Int) ≤ 1000 := by omega
      have hX := HF.out k hlt
      have HX : Hid (∀ w, Calls Tryz.prog 75 #[.agg #[.int .i64 (sAt ss k).1.1, .int .i64 (sAt ss k).1.2, .int .i64 (sAt ss k).2.1, .int .i64 (sAt ss k).2.2], .int .i64 r, .agg #[.int .i64 p.1, .int .i64 p.2]] w fun e w' => e = .returned (.bool (F k)) ∧ Below w.heap.size w w') := hX
      clear hX s0 s1 s2 s3
      obtain ⟨bk, hbk⟩ : ∃ bk, F k = bk := ⟨_, rfl⟩
      have HK : Hid (F k = bk) := hbk
      rw [hbk] at HX
      clear hbk
      cases bk
      · go_wp2_with fail
        refine wp_region_quiet_below (by kernel_rfl) (by kernel_rfl) ?_
        repeat (first | go_big_quiet_step (first | (go_at_call 75; with_reducible exact Calls.regrown_of (HX.out _))))
        refine wpQuiet_nil ?_
        intro _ hw'
        obtain ⟨⟨dq, osq⟩, hw''⟩ := hw'
        subst hw''
        have J := below_regrown wr dq osq
        generalize grow (redrawn wr dq) osq = v2 at J ⊢
        go_wp2_with fail
        go_roundw
        case rel =>
          refine ⟨k + 1, by omega, by simp, fun j hj => ?_, bw_trans hnx J⟩
          rcases Nat.lt_or_ge j k with hjk | hjk
          · exact HB.out j hjk
          · obtain rfl : j = k := by omega
            exact HK.out
        case measure => simp [intOf]; omega
      · have e1 : Hid (al = false) := by
          change _ = _
          rw [Bool.eq_false_iff]
          intro hc
          have := HA.out.1 hc k hlt
          rw [HK.out] at this; cases this
        go_wp2_with fail
        refine wp_region_quiet_below (by kernel_rfl) (by kernel_rfl) ?_
        repeat (first | go_big_quiet_step (first | (go_at_call 75; with_reducible exact Calls.regrown_of (HX.out _))))
        refine wpQuiet_nil ?_
        intro _ hw'
        obtain ⟨⟨dq, osq⟩, hw''⟩ := hw'
        subst hw''
        have J := below_regrown wr dq osq
        generalize grow (redrawn wr dq) osq = v2 at J ⊢
        go_wp2_with fail
        go_ret
        exact ⟨by rw [e1.out]; rfl, bw_trans KW J⟩
    case neg =>
      obtain rfl : len = k := by omega
      have e1 : Hid (al = true) := HA.out.2 HB.out
      have hc := HP.out wr KW
      obtain ⟨p0, p1⟩ := blk_2 (keep hnx TP)
      obtain ⟨t0, t1⟩ := blk_2 (keep hnx T)
      clear HA HF HB
      go_wp2_with fail
      refine hc.mono ?_
      rintro e v2 ⟨rfl, J⟩
      go_wp2_with fail
      go_ret
      exact ⟨by rw [e1.out]; first | rfl | simp, bw_trans KW J⟩
end Go.Proofs.YtmdjhoknlplecaaGreatDoor
namespace Go.Proofs.YtmdjhoknlplecaaGreatDoor
open Go.RowKit Go.Sort

/-- A row of edges that a call made itself. -/
theorem row_of_owns' {base : Nat} {W : World} {v : Value} {ss : List (P2 × P2)} (h : W.ownsRow base 62 4 v ss.length (cellsS ss)) (hs : 0 < ss.length) : ∃ g c, v = .slice (some ⟨g, 0, none⟩) ss.length c ∧ g < W.heap.size ∧ SRow W g ss := by
  have := AnsS.of_owns h rfl
  rcases this with ⟨rfl, a, c, rfl⟩ | ⟨g, c, rfl, _, _, _, hO, hS⟩
  · simp at hs
  · exact ⟨g, c, rfl, hO.lt, hS⟩
set_option maxRecDepth 100000 in
set_option maxHeartbeats 4000000 in
theorem sToolFits_any (a ah : Option Addr) (la ca nh ch : Nat) (o : List P2) (hs : List (List P2)) (r : Int) (p : P2) (w : World) (h : Plt w a la ah nh o hs) :
    Calls Tryz.prog 12 #[.agg #[.slice a la ca, .slice ah nh ch], .int .i64 r, .agg #[.int .i64 p.1, .int .i64 p.2]] w fun e W' => e = .returned (.bool (fitV o hs r p)) ∧ Below w.heap.size w W' := by
  obtain ⟨W, hW, BW, TP, T⟩ := boxes2 w (.cells #[.slice a la ca, .slice ah nh ch] 33) (.cells #[.int .i64 p.1, .int .i64 p.2] 35)
  have hh := h.below BW
  have zP := blk_lt TP
  have zT := blk_lt T
  have hOk := fun d os => sPlateOk_any a ah la ca nh ch o hs _ (hh.below (below_regrown W d os))
  have hIn := fun V => in_any r 1 9 V
  rw [inR_r] at hIn
  have hPt := fun V => sPt_raw p V
  obtain ⟨t0, t1⟩ := reg_2 TP
  obtain ⟨u0, u1⟩ := reg_2 T
  have HO : Hid (∀ d os, Calls Tryz.prog 20 #[.agg #[.slice a la ca, .slice ah nh ch]] (grow (redrawn W d) os) fun e W' => e = .returned (.bool (plV o hs)) ∧ Below (grow (redrawn W d) os).heap.size (grow (redrawn W d) os) W') := hOk
  have HI : Hid (∀ V, Calls Tryz.prog 35 #[.int .i64 r, .int .i64 1, .int .i64 9] V fun e W' => e = .returned (.bool (rV r)) ∧ Below V.heap.size V W') := fun V => (hIn V).mono fun _ _ h => ⟨h.1, h.2 ▸ bw_refl _⟩
  have HQ : Hid (∀ V, Calls Tryz.prog 21 #[.agg #[.int .i64 p.1, .int .i64 p.2]] V fun e W' => e = .returned (.bool (ptB p.1 p.2)) ∧ Below V.heap.size V W') := hPt
  clear hOk hIn hPt
  cases hv : plV o hs
  · have e1 : Hid (fitV o hs r p = false) := by change _ = _; unfold fitV; rw [hv, Bool.and_false]; rfl
    rw [hv] at HO
    go_enter Tryz.func12, Tryz.ntmps12
    go_upto_region 1 with fail
    rw [← hW]
    clear hW
    refine wp_region_quiet_below (by kernel_rfl) (by kernel_rfl) ?_
    repeat (first | go_big_quiet_step (first | (go_at_call 20; with_reducible exact Calls.regrown_of (HO.out _ _))))
    refine wpQuiet_nil ?_
    intro _ hw'
    obtain ⟨⟨dq, osq⟩, hw''⟩ := hw'
    subst hw''
    have J := below_regrown W dq osq
    generalize grow (redrawn W dq) osq = v at J ⊢
    go_wp2_with fail
    go_ret
    exact ⟨by rw [e1.out]; first | rfl | simp, bw_trans BW J⟩
  rw [hv] at HO
  cases hr : rV r
  · have e1 : Hid (fitV o hs r p = false) := by change _ = _; unfold fitV; rw [hr]; rfl
    rw [hr] at HI
    go_enter Tryz.func12, Tryz.ntmps12
    go_upto_region 1 with fail
    rw [← hW]
    clear hW
    refine wp_region_quiet_below (by kernel_rfl) (by kernel_rfl) ?_
    repeat (first | go_big_quiet_step (first | (go_at_call 20; with_reducible exact Calls.regrown_of (HO.out _ _)) | (go_at_call 35; with_reducible exact Calls.regrown_of (HI.out _))))
    refine wpQuiet_nil ?_
    intro _ hw'
    obtain ⟨⟨dq, osq⟩, hw''⟩ := hw'
    subst hw''
    have J := below_regrown W dq osq
    generalize grow (redrawn W dq) osq = v at J ⊢
    go_wp2_with fail
    go_ret
    exact ⟨by rw [e1.out]; first | rfl | simp, bw_trans BW J⟩
  rw [hr] at HI
  cases hp : ptB p.1 p.2
  · have e1 : Hid (fitV o hs r p = false) := by change _ = _; unfold fitV; rw [hr, hv, hp]; rfl
    rw [hp] at HQ
    go_enter Tryz.func12, Tryz.ntmps12
    go_upto_region 1 with fail
    rw [← hW]
    clear hW
    refine wp_region_quiet_below (by kernel_rfl) (by kernel_rfl) ?_
    repeat (first | go_big_quiet_step (first | (go_at_call 20; with_reducible exact Calls.regrown_of (HO.out _ _)) | (go_at_call 35; with_reducible exact Calls.regrown_of (HI.out _)) | (go_at_call 21; with_reducible exact Calls.regrown_of (HQ.out _))))
    refine wpQuiet_nil ?_
    intro _ hw'
    obtain ⟨⟨dq, osq⟩, hw''⟩ := hw'
    subst hw''
    have J := below_regrown W dq osq
    generalize grow (redrawn W dq) osq = v at J ⊢
    go_wp2_with fail
    go_ret
    exact ⟨by rw [e1.out]; first | rfl | simp, bw_trans BW J⟩
  rw [hp] at HQ
  have e1 : Hid (fitV o hs r p = (((plE o hs).all fun s => !nearI s r p) && decide (plI o hs p = 1))) := by change _ = _; rw [fitV_ok hr hv hp]; exact fitI_all hr hv hp
  have n3 := plE_ne hv
  have n24 := plE_len o hs
  have hok : ∀ s ∈ plE o hs, sgP s.1 s.2 = true := fun s hs => plE_ok hv hs
  obtain ⟨N, hN⟩ : ∃ N, (plE o hs).length = N := ⟨_, rfl⟩
  have hOk2 : ∀ V, Below W.heap.size W V → Calls Tryz.prog 20 #[.agg #[.slice a la ca, .slice ah nh ch]] V fun e W' => e = .returned (.bool true) ∧ Below V.heap.size V W' := fun V hV => by have := sPlateOk_any a ah la ca nh ch o hs V (hh.below hV); rwa [hv] at this
  have hE : ∀ V, Below W.heap.size W V → Calls Tryz.prog 37 #[.agg #[.slice a la ca, .slice ah nh ch]] V _ := fun V hV => l11Edges_ok a ah la ca nh ch o hs hv V (hh.below hV)
  have hX : ∀ g c V, Below W.heap.size W V → SRow V g (plE o hs) → g < V.heap.size → Calls Tryz.prog 36 #[.agg #[.slice a la ca, .slice ah nh ch], .slice (some ⟨g, 0, none⟩) N c, .int .i64 r, .agg #[.int .i64 p.1, .int .i64 p.2]] V fun e W' => e = .returned (.bool (fitV o hs r p)) ∧ Below V.heap.size V W' := fun g c V hV hR hg => by
    have := sFits_ok a ah la ca nh ch o hs g N c (plE o hs) r p V (hh.below hV) hv hr hp hR hg hN (by omega) hok
    rw [e1.out]; exact this
  have hS0 : (fun w' : World => (w'.cell? ⟨w.heap.size, 0, none⟩ = some (.slice a la ca) ∧ w'.cell? ⟨w.heap.size, 1, none⟩ = some (.slice ah nh ch)) ∧ (w'.cell? ⟨w.heap.size + 1, 0, none⟩ = some (.int .i64 p.1) ∧ w'.cell? ⟨w.heap.size + 1, 1, none⟩ = some (.int .i64 p.2))) W.drew := ⟨blk_2 TP, blk_2 T⟩
  have H := bw_drew (bw_refl W)
  clear HO t0 t1 u0 u1
  go_enter Tryz.func12, Tryz.ntmps12
  go_upto_region 1 with fail
  rw [← hW]
  clear hW
  go_region_held3 (fun w' : World => (w'.cell? ⟨w.heap.size, 0, none⟩ = some (.slice a la ca) ∧ w'.cell? ⟨w.heap.size, 1, none⟩ = some (.slice ah nh ch)) ∧ (w'.cell? ⟨w.heap.size + 1, 0, none⟩ = some (.int .i64 p.1) ∧ w'.cell? ⟨w.heap.size + 1, 1, none⟩ = some (.int .i64 p.2)))
    (first | exact ⟨⟨cellB J hS0.1.1, cellB J hS0.1.2⟩, cellB J hS0.2.1, cellB J hS0.2.2⟩ | exact hS0)
    (first
      | (go_at_call 20; refine (hOk2 _ H).mono ?_; rintro e w2 ⟨rfl, J⟩; replace H := bw_trans H J; replace hS0 : (fun w' : World => (w'.cell? ⟨w.heap.size, 0, none⟩ = some (.slice a la ca) ∧ w'.cell? ⟨w.heap.size, 1, none⟩ = some (.slice ah nh ch)) ∧ (w'.cell? ⟨w.heap.size + 1, 0, none⟩ = some (.int .i64 p.1) ∧ w'.cell? ⟨w.heap.size + 1, 1, none⟩ = some (.int .i64 p.2))) w2 := ⟨⟨cellB J hS0.1.1, cellB J hS0.1.2⟩, cellB J hS0.2.1, cellB J hS0.2.2⟩)
      | (go_at_call 35; refine (HI.out _).mono ?_; rintro e w2 ⟨rfl, J⟩; replace H := bw_trans H J; replace hS0 : (fun w' : World => (w'.cell? ⟨w.heap.size, 0, none⟩ = some (.slice a la ca) ∧ w'.cell? ⟨w.heap.size, 1, none⟩ = some (.slice ah nh ch)) ∧ (w'.cell? ⟨w.heap.size + 1, 0, none⟩ = some (.int .i64 p.1) ∧ w'.cell? ⟨w.heap.size + 1, 1, none⟩ = some (.int .i64 p.2))) w2 := ⟨⟨cellB J hS0.1.1, cellB J hS0.1.2⟩, cellB J hS0.2.1, cellB J hS0.2.2⟩)
      | (go_at_call 21; refine (HQ.out _).mono ?_; rintro e w2 ⟨rfl, J⟩; replace H := bw_trans H J; replace hS0 : (fun w' : World => (w'.cell? ⟨w.heap.size, 0, none⟩ = some (.slice a la ca) ∧ w'.cell? ⟨w.heap.size, 1, none⟩ = some (.slice ah nh ch)) ∧ (w'.cell? ⟨w.heap.size + 1, 0, none⟩ = some (.int .i64 p.1) ∧ w'.cell? ⟨w.heap.size + 1, 1, none⟩ = some (.int .i64 p.2))) w2 := ⟨⟨cellB J hS0.1.1, cellB J hS0.1.2⟩, cellB J hS0.2.1, cellB J hS0.2.2⟩)
      | (go_at_call 37; refine (hE _ H).mono ?_; rintro e w2 ⟨v, rfl, ho, J⟩; obtain ⟨g, c, rfl, hg, hR⟩ := row_of_owns' ho (by omega); rw [hN]; replace H := bw_trans H J; replace hS0 : (fun w' : World => (w'.cell? ⟨w.heap.size, 0, none⟩ = some (.slice a la ca) ∧ w'.cell? ⟨w.heap.size, 1, none⟩ = some (.slice ah nh ch)) ∧ (w'.cell? ⟨w.heap.size + 1, 0, none⟩ = some (.int .i64 p.1) ∧ w'.cell? ⟨w.heap.size + 1, 1, none⟩ = some (.int .i64 p.2))) w2 := ⟨⟨cellB J hS0.1.1, cellB J hS0.1.2⟩, cellB J hS0.2.1, cellB J hS0.2.2⟩)
      | (go_at_call 36; refine (hX g c _ H hR hg).mono ?_; rintro e w2 ⟨rfl, J⟩; replace H := bw_trans H J; replace hS0 : (fun w' : World => (w'.cell? ⟨w.heap.size, 0, none⟩ = some (.slice a la ca) ∧ w'.cell? ⟨w.heap.size, 1, none⟩ = some (.slice ah nh ch)) ∧ (w'.cell? ⟨w.heap.size + 1, 0, none⟩ = some (.int .i64 p.1) ∧ w'.cell? ⟨w.heap.size + 1, 1, none⟩ = some (.int .i64 p.2))) w2 := ⟨⟨cellB J hS0.1.1, cellB J hS0.1.2⟩, cellB J hS0.2.1, cellB J hS0.2.2⟩))
  all_goals go_wp2_with fail
  all_goals go_ret
  all_goals exact ⟨by first | rfl | simp, bw_trans BW H⟩
end Go.Proofs.YtmdjhoknlplecaaGreatDoor
namespace Go.Proofs.YtmdjhoknlplecaaGreatDoor
open Go.RowKit Go.Sort

set_option maxRecDepth 100000 in
set_option maxHeartbeats 4000000 in
theorem l71Stand_any (k : Nat) (a : Option Addr) (len cap r : Nat) (w : World) (hk : k ≤ 10) (R : Rd w r k a len cap) :
    Calls Tryz.prog 53 #[.pointer (some ⟨r, 0, none⟩)] w fun e w' => ∃ (o : LoopT) (hv : Value) (hs : List LoopT) (t x y : Int) (k' : Nat), e = .returned (.tuple #[.agg #[o.v, hv], .int .i64 t, .agg #[.int .i64 x, .int .i64 y]]) ∧ (-1 ≤ t ∧ t ≤ 10) ∧ PB x y ∧ PlD w.heap.size w' o hv hs ∧ (hs.length ≤ 3 ∧ Seat hv) ∧ k' ≤ 800000 ∧ Rd w' r k' a len cap ∧ Only r w w' := by
  have hmx : Tryz.prog.follows .mixedOrders = true := by kernel_rfl
  have hlt := R.lt
  obtain ⟨W, hW, BW, T, T2⟩ := boxes2 w (.cells #[.slice none 0 0, .slice none 0 0] 33) (.cells #[.int .i64 0, .int .i64 0] 35)
  have P : Only r w W := by rw [hW]; exact ((Only.refl r w).alloc _).alloc _
  have zT := blk_lt T
  have zT2 := blk_lt T2
  have zW := BW.size
  go_enter Tryz.func53, Tryz.ntmps53
  go_wp2_with fail
  rw [← hW]
  clear hW
  refine (plate_any k a len cap r _ (by omega) (R.below BW)).mono ?_
  clear R
  rintro e w2 ⟨⟨g, n, c, l⟩, hv, hs, k2, he, hD, ⟨hs3, hst⟩, hk2, R, O⟩
  obtain rfl : e = .returned (.agg #[.slice (some ⟨g, 0, none⟩) n c, hv]) := he
  obtain ⟨gh, ch, rfl⟩ : ∃ gh ch, hv = .slice (some ⟨gh, 0, none⟩) hs.length ch := own_seat hD.2.2.1 hst
  replace T := keepO O T (by omega)
  replace T2 := keepO O T2 (by omega)
  replace P := P.trans O
  have z2 := O.size
  obtain ⟨N, hNN⟩ : ∃ N, hs.length = N := ⟨_, rfl⟩
  have HN : Hid (hs.length = N) := hNN
  rw [hNN]
  have hPl := hD.plt
  rw [hNN] at hPl
  clear hNN O
  go_wp2_with fail
  refine (l71Tool_any k2 a len cap r _ (by omega) (R.alloc _)).mono ?_
  clear R
  rintro e w3 ⟨t, k3, rfl, ht, hk3, R, O⟩
  have TP := keepO O (heap_new w2 (.cells #[.slice (some ⟨g, 0, none⟩) n c, .slice (some ⟨gh, 0, none⟩) N ch] 33)) (by omega)
  replace T := keepO O ((heap_old _ _ (blk_lt T)).trans T) (by omega)
  replace T2 := keepO O ((heap_old _ _ (blk_lt T2)).trans T2) (by omega)
  have O2 := ((Only.refl r w2).alloc (.cells #[.slice (some ⟨g, 0, none⟩) n c, .slice (some ⟨gh, 0, none⟩) N ch] 33)).trans O
  have z3 := O2.size
  clear O
  go_wp2_with fail
  refine (l71Pt_any k3 a len cap r _ (by omega) R).mono ?_
  clear R
  rintro e w4 ⟨x, y, k4, rfl, hPB, hk4, R, O⟩
  replace TP := keepO O TP (by omega)
  replace T := keepO O T (by omega)
  replace T2 := keepO O T2 (by omega)
  replace O2 := O2.trans O
  have z4 := O.size
  have zTP := blk_lt TP
  clear O
  have P4 : Only r w w4 := P.trans O2
  have hD4 := hD.only O2 (by omega)
  rw [HN.out] at hD4 hst
  clear hD hPl P O2
  have R5 := R.alloc (.cells #[.int .i64 x, .int .i64 y] 35)
  have A5 := heap_new w4 (.cells #[.int .i64 x, .int .i64 y] 35)
  have Q5 := (Only.refl r w4).alloc (.cells #[.int .i64 x, .int .i64 y] 35)
  clear R
  go_wp2_with fail
  go_loopw [8] (fun i wr => ∃ (m kk : Nat) (x y : Int), m ≤ 30 ∧ i = .int .i64 m ∧ PB x y ∧ kk ≤ k4 + m * 5 ∧ Rd wr r kk a len cap ∧ Only r w4 wr ∧ wr.heap[w4.heap.size]? = some (.cells #[.int .i64 x, .int .i64 y] 35)) (fun i _ => 30 - (intOf i).toNat)
  case atStart => exact ⟨0, k4, x, y, by omega, rfl, hPB, by omega, R5, Q5, A5⟩
  case round =>
    obtain ⟨m, kk, x, y, hm, rfl, hPB, hkk, R, O, A⟩ := hrel
    have T7 := keepO O T (by omega)
    have T27 := keepO O T2 (by omega)
    have TP7 := keepO O TP (by omega)
    have zO := O.size
    have zA := blk_lt A
    have m0 : (0 : Int) ≤ (m : Int) := Int.natCast_nonneg _
    have m1 : (m : Int) ≤ 30 := by omega
    by_cases hlt : m < 30
    case pos =>
      have m2 : (m : Int) < 30 := by omega
      go_wp2_with fail
      refine (pick_rd 20 kk a len cap r _ (by omega) (by omega) R).mono ?_
      clear R
      rintro e y1 ⟨q, rfl, qa, qb, R, O1⟩
      have O2 := O.trans O1
      have A2 := keepO O1 A (by omega)
      have z2' := O2.size
      by_cases hq : 0 < q
      case neg =>
        obtain ⟨a0, a1, af0, af1⟩ := blk2 (keepO O2 T (by omega))
        obtain ⟨b0, b1, bf0, bf1⟩ := blk2 (keepO O2 T2 (by omega))
        have hDz := hD4.only O2.drew (by omega)
        have hS1 : (fun w' : World => (w'.cell? ⟨w2.heap.size, 0, none⟩ = some (.slice (some ⟨g, 0, none⟩) n c) ∧ w'.cell? ⟨w2.heap.size, 1, none⟩ = some (.slice (some ⟨gh, 0, none⟩) N ch)) ∧ (w'.cell? ⟨w4.heap.size, 0, none⟩ = some (.int .i64 x) ∧ w'.cell? ⟨w4.heap.size, 1, none⟩ = some (.int .i64 y))) y1.drew := ⟨blk_2 (keepO O2.drew TP (by omega)), blk_2 (show y1.drew.heap[w4.heap.size]? = _ from A2)⟩
        go_wp2_with fail
        refine wp_region_held (S := (fun w' : World => (w'.cell? ⟨w2.heap.size, 0, none⟩ = some (.slice (some ⟨g, 0, none⟩) n c) ∧ w'.cell? ⟨w2.heap.size, 1, none⟩ = some (.slice (some ⟨gh, 0, none⟩) N ch)) ∧ (w'.cell? ⟨w4.heap.size, 0, none⟩ = some (.int .i64 x) ∧ w'.cell? ⟨w4.heap.size, 1, none⟩ = some (.int .i64 y)))) hmx ?_
        refine wpAnyH_take (i := 0) (v := .agg #[.slice (some ⟨g, 0, none⟩) n c, .slice (some ⟨gh, 0, none⟩) N ch]) rfl (by kernel_rfl) (by kernel_rfl) (by kernel_rfl) (fun _ _ _ h => h) (Or.inl ⟨by rfl, by rintro w' ⟨⟨s1, s2⟩, s3, s4⟩; go_simp⟩) hS1 ?_
        refine wpAnyH_take (i := 1) (v := .int .i64 t) rfl (by kernel_rfl) (by kernel_rfl) (by kernel_rfl) (fun _ _ _ h => h) (Or.inl ⟨by rfl, by rintro w' ⟨⟨s1, s2⟩, s3, s4⟩; go_simp⟩) hS1 ?_
        refine wpAnyH_take (i := 2) (v := .agg #[.int .i64 x, .int .i64 y]) rfl (by kernel_rfl) (by kernel_rfl) (by kernel_rfl) (fun _ _ _ h => h) (Or.inl ⟨by rfl, by rintro w' ⟨⟨s1, s2⟩, s3, s4⟩; go_simp⟩) hS1 ?_
        refine wpAnyH_all (rs := [3]) (by kernel_rfl) (by simp) ?_
        intro i hi
        obtain rfl : i = 3 := by simpa using hi
        refine wpOp_now rfl (by rfl) ?_
        go_simp
        have T1' := setB2 (u0 := .slice (some ⟨g, 0, none⟩) n c) (u1 := .slice (some ⟨gh, 0, none⟩) N ch) (keepO O2 T (by omega))
        have T2' := set_oth (b := w.heap.size) (i := 1) (v := .slice (some ⟨gh, 0, none⟩) N ch) (set_oth (b := w.heap.size) (i := 0) (v := .slice (some ⟨g, 0, none⟩) n c) (keepO O2 T2 (by omega)) (by omega)) (by omega)
        have hS2 : (fun w' : World => (w'.cell? ⟨w2.heap.size, 0, none⟩ = some (.slice (some ⟨g, 0, none⟩) n c) ∧ w'.cell? ⟨w2.heap.size, 1, none⟩ = some (.slice (some ⟨gh, 0, none⟩) N ch)) ∧ (w'.cell? ⟨w4.heap.size, 0, none⟩ = some (.int .i64 x) ∧ w'.cell? ⟨w4.heap.size, 1, none⟩ = some (.int .i64 y))) ((y1.drew.setCell ⟨w.heap.size, 0, none⟩ (.slice (some ⟨g, 0, none⟩) n c)).setCell ⟨w.heap.size, 1, none⟩ (.slice (some ⟨gh, 0, none⟩) N ch)) := ⟨⟨cellS2 hS1.1.1 (by dsimp only; omega), cellS2 hS1.1.2 (by dsimp only; omega)⟩, cellS2 hS1.2.1 (by dsimp only; omega), cellS2 hS1.2.2 (by dsimp only; omega)⟩
        obtain ⟨d0, d1, df0, df1⟩ := blk2 T2'
        first | refine ⟨hS2, ?_⟩ | refine ⟨hS1, ?_⟩
        refine wpAnyH_take (i := 4) (v := .int .i64 t) rfl (by kernel_rfl) (by kernel_rfl) (by kernel_rfl) (fun _ _ _ h => h) (Or.inl ⟨by rfl, by rintro w' ⟨⟨s1, s2⟩, s3, s4⟩; go_simp⟩) hS2 ?_
        refine wpAnyH_all (rs := [5]) (by kernel_rfl) (by simp) ?_
        intro i hi
        obtain rfl : i = 5 := by simpa using hi
        refine wpOp_now rfl (by rfl) ?_
        go_simp
        refine ⟨hS1, ?_⟩
        refine wpAnyH_done (by kernel_rfl) ?_ _
        try simp only [Exit.then]
        have T3' := set_oth (b := w.heap.size + 1) (i := 1) (v := .int .i64 y) (set_oth (b := w.heap.size + 1) (i := 0) (v := .int .i64 x) T1' (by omega)) (by omega)
        have T4' := setB2 (u0 := .int .i64 x) (u1 := .int .i64 y) T2'
        obtain ⟨v0, v1, _, _⟩ := blk2 T3'
        obtain ⟨v2, v3, _, _⟩ := blk2 T4'
        go_wp2_with fail
        refine bodyPost_ret (v := .tuple #[.agg #[.slice (some ⟨g, 0, none⟩) n c, .slice (some ⟨gh, 0, none⟩) N ch], .int .i64 t, .agg #[.int .i64 x, .int .i64 y]]) (by simp [results, Tryz.results53, go_sem, v0, v1, v2, v3]) rfl ?_
        refine ⟨⟨g, n, c, l⟩, _, hs, t, x, y, rfl, ht, hPB, ((((hDz.set (by omega) _).set (by omega) _).set (by omega) _).set (by omega) _).mono (by omega), ⟨hs3, hst⟩, _, ?_, (((R.drew.set (by show r < w.heap.size; omega) _).set (by show r < w.heap.size; omega) _).set (by show r < w.heap.size + 1; omega) _).set (by show r < w.heap.size + 1; omega) _,
          ((((P4.trans O2.drew).set (.inr (Nat.le_refl _)) _).set (.inr (Nat.le_refl _)) _).set (.inr (Nat.le_succ _)) _).set (.inr (Nat.le_succ _)) _⟩
        omega
      case pos =>
        obtain ⟨p0, p1⟩ := blk_2 (keepO O2 TP (by omega))
        obtain ⟨c0, c1⟩ := blk_2 A2
        have hPy : Plt y1 (some ⟨g, 0, none⟩) n (some ⟨gh, 0, none⟩) N l (hs.map LoopT.l) := by have h4 := hD4.only O2 (by omega); have e := HN.out; subst e; exact h4.plt
        have hF := sToolFits_any (some ⟨g, 0, none⟩) (some ⟨gh, 0, none⟩) n c N ch l (hs.map LoopT.l) t (x, y) y1 hPy
        obtain ⟨bf, hbf⟩ : ∃ b, fitV l (hs.map LoopT.l) t (x, y) = b := ⟨_, rfl⟩
        rw [hbf] at hF
        clear hbf hPy
        go_wp2_with fail
        refine hF.mono ?_
        rintro e y2 ⟨rfl, J⟩
        have O3 := O2.trans (Only.of_below J)
        have A3 := keep J A2
        replace R := R.below J
        have z3' := O3.size
        clear p0 p1 c0 c1 hF
        cases bf
        case true =>
          obtain ⟨a0, a1, af0, af1⟩ := blk2 (keepO O3 T (by omega))
          obtain ⟨b0, b1, bf0, bf1⟩ := blk2 (keepO O3 T2 (by omega))
          have hDz := hD4.only O3.drew (by omega)
          have hS1 : (fun w' : World => (w'.cell? ⟨w2.heap.size, 0, none⟩ = some (.slice (some ⟨g, 0, none⟩) n c) ∧ w'.cell? ⟨w2.heap.size, 1, none⟩ = some (.slice (some ⟨gh, 0, none⟩) N ch)) ∧ (w'.cell? ⟨w4.heap.size, 0, none⟩ = some (.int .i64 x) ∧ w'.cell? ⟨w4.heap.size, 1, none⟩ = some (.int .i64 y))) y2.drew := ⟨blk_2 (keepO O3.drew TP (by omega)), blk_2 (show y2.drew.heap[w4.heap.size]? = _ from A3)⟩
          go_wp2_with fail
          refine wp_region_held (S := (fun w' : World => (w'.cell? ⟨w2.heap.size, 0, none⟩ = some (.slice (some ⟨g, 0, none⟩) n c) ∧ w'.cell? ⟨w2.heap.size, 1, none⟩ = some (.slice (some ⟨gh, 0, none⟩) N ch)) ∧ (w'.cell? ⟨w4.heap.size, 0, none⟩ = some (.int .i64 x) ∧ w'.cell? ⟨w4.heap.size, 1, none⟩ = some (.int .i64 y)))) hmx ?_
          refine wpAnyH_take (i := 0) (v := .agg #[.slice (some ⟨g, 0, none⟩) n c, .slice (some ⟨gh, 0, none⟩) N ch]) rfl (by kernel_rfl) (by kernel_rfl) (by kernel_rfl) (fun _ _ _ h => h) (Or.inl ⟨by rfl, by rintro w' ⟨⟨s1, s2⟩, s3, s4⟩; go_simp⟩) hS1 ?_
          refine wpAnyH_take (i := 1) (v := .int .i64 t) rfl (by kernel_rfl) (by kernel_rfl) (by kernel_rfl) (fun _ _ _ h => h) (Or.inl ⟨by rfl, by rintro w' ⟨⟨s1, s2⟩, s3, s4⟩; go_simp⟩) hS1 ?_
          refine wpAnyH_take (i := 2) (v := .agg #[.int .i64 x, .int .i64 y]) rfl (by kernel_rfl) (by kernel_rfl) (by kernel_rfl) (fun _ _ _ h => h) (Or.inl ⟨by rfl, by rintro w' ⟨⟨s1, s2⟩, s3, s4⟩; go_simp⟩) hS1 ?_
          refine wpAnyH_all (rs := [3]) (by kernel_rfl) (by simp) ?_
          intro i hi
          obtain rfl : i = 3 := by simpa using hi
          refine wpOp_now rfl (by rfl) ?_
          go_simp
          have T1' := setB2 (u0 := .slice (some ⟨g, 0, none⟩) n c) (u1 := .slice (some ⟨gh, 0, none⟩) N ch) (keepO O3 T (by omega))
          have T2' := set_oth (b := w.heap.size) (i := 1) (v := .slice (some ⟨gh, 0, none⟩) N ch) (set_oth (b := w.heap.size) (i := 0) (v := .slice (some ⟨g, 0, none⟩) n c) (keepO O3 T2 (by omega)) (by omega)) (by omega)
          have hS2 : (fun w' : World => (w'.cell? ⟨w2.heap.size, 0, none⟩ = some (.slice (some ⟨g, 0, none⟩) n c) ∧ w'.cell? ⟨w2.heap.size, 1, none⟩ = some (.slice (some ⟨gh, 0, none⟩) N ch)) ∧ (w'.cell? ⟨w4.heap.size, 0, none⟩ = some (.int .i64 x) ∧ w'.cell? ⟨w4.heap.size, 1, none⟩ = some (.int .i64 y))) ((y2.drew.setCell ⟨w.heap.size, 0, none⟩ (.slice (some ⟨g, 0, none⟩) n c)).setCell ⟨w.heap.size, 1, none⟩ (.slice (some ⟨gh, 0, none⟩) N ch)) := ⟨⟨cellS2 hS1.1.1 (by dsimp only; omega), cellS2 hS1.1.2 (by dsimp only; omega)⟩, cellS2 hS1.2.1 (by dsimp only; omega), cellS2 hS1.2.2 (by dsimp only; omega)⟩
          obtain ⟨d0, d1, df0, df1⟩ := blk2 T2'
          first | refine ⟨hS2, ?_⟩ | refine ⟨hS1, ?_⟩
          refine wpAnyH_take (i := 4) (v := .int .i64 t) rfl (by kernel_rfl) (by kernel_rfl) (by kernel_rfl) (fun _ _ _ h => h) (Or.inl ⟨by rfl, by rintro w' ⟨⟨s1, s2⟩, s3, s4⟩; go_simp⟩) hS2 ?_
          refine wpAnyH_all (rs := [5]) (by kernel_rfl) (by simp) ?_
          intro i hi
          obtain rfl : i = 5 := by simpa using hi
          refine wpOp_now rfl (by rfl) ?_
          go_simp
          refine ⟨hS1, ?_⟩
          refine wpAnyH_done (by kernel_rfl) ?_ _
          try simp only [Exit.then]
          have T3' := set_oth (b := w.heap.size + 1) (i := 1) (v := .int .i64 y) (set_oth (b := w.heap.size + 1) (i := 0) (v := .int .i64 x) T1' (by omega)) (by omega)
          have T4' := setB2 (u0 := .int .i64 x) (u1 := .int .i64 y) T2'
          obtain ⟨v0, v1, _, _⟩ := blk2 T3'
          obtain ⟨v2, v3, _, _⟩ := blk2 T4'
          go_wp2_with fail
          refine bodyPost_ret (v := .tuple #[.agg #[.slice (some ⟨g, 0, none⟩) n c, .slice (some ⟨gh, 0, none⟩) N ch], .int .i64 t, .agg #[.int .i64 x, .int .i64 y]]) (by simp [results, Tryz.results53, go_sem, v0, v1, v2, v3]) rfl ?_
          refine ⟨⟨g, n, c, l⟩, _, hs, t, x, y, rfl, ht, hPB, ((((hDz.set (by omega) _).set (by omega) _).set (by omega) _).set (by omega) _).mono (by omega), ⟨hs3, hst⟩, _, ?_, (((R.drew.set (by show r < w.heap.size; omega) _).set (by show r < w.heap.size; omega) _).set (by show r < w.heap.size + 1; omega) _).set (by show r < w.heap.size + 1; omega) _,
            ((((P4.trans O3.drew).set (.inr (Nat.le_refl _)) _).set (.inr (Nat.le_refl _)) _).set (.inr (Nat.le_succ _)) _).set (.inr (Nat.le_succ _)) _⟩
          omega
        case false =>
          go_wp2_with fail
          refine (l71Pt_any (kk + 1) a len cap r _ (by omega) R).mono ?_
          clear R
          rintro e y3 ⟨x', y', k5, rfl, hPB', hk5, R, O4⟩
          have O5 := O3.trans O4
          have A5' := keepO O4 A3 (by omega)
          obtain ⟨c0, c1, cf0, cf1⟩ := blk2 A5'
          go_wp2_with fail
          go_roundw
          case rel => exact ⟨m + 1, k5, x', y', by omega, by simp, hPB', by omega, (R.set (by show r < w4.heap.size; omega) _).set (by show r < w4.heap.size; omega) _, (O5.set (.inr (Nat.le_refl _)) _).set (.inr (Nat.le_refl _)) _, setB2 A5'⟩
          case measure => simp [intOf]; omega
    case neg =>
      obtain rfl : m = 30 := by omega
      obtain ⟨a0, a1, af0, af1⟩ := blk2 (keepO O T (by omega))
      obtain ⟨b0, b1, bf0, bf1⟩ := blk2 (keepO O T2 (by omega))
      have hDz := hD4.only O.drew (by omega)
      have hS1 : (fun w' : World => (w'.cell? ⟨w2.heap.size, 0, none⟩ = some (.slice (some ⟨g, 0, none⟩) n c) ∧ w'.cell? ⟨w2.heap.size, 1, none⟩ = some (.slice (some ⟨gh, 0, none⟩) N ch)) ∧ (w'.cell? ⟨w4.heap.size, 0, none⟩ = some (.int .i64 x) ∧ w'.cell? ⟨w4.heap.size, 1, none⟩ = some (.int .i64 y))) wr.drew := ⟨blk_2 (keepO O.drew TP (by omega)), blk_2 (show wr.drew.heap[w4.heap.size]? = _ from A)⟩
      go_wp2_with fail
      refine wp_region_held (S := (fun w' : World => (w'.cell? ⟨w2.heap.size, 0, none⟩ = some (.slice (some ⟨g, 0, none⟩) n c) ∧ w'.cell? ⟨w2.heap.size, 1, none⟩ = some (.slice (some ⟨gh, 0, none⟩) N ch)) ∧ (w'.cell? ⟨w4.heap.size, 0, none⟩ = some (.int .i64 x) ∧ w'.cell? ⟨w4.heap.size, 1, none⟩ = some (.int .i64 y)))) hmx ?_
      refine wpAnyH_take (i := 0) (v := .agg #[.slice (some ⟨g, 0, none⟩) n c, .slice (some ⟨gh, 0, none⟩) N ch]) rfl (by kernel_rfl) (by kernel_rfl) (by kernel_rfl) (fun _ _ _ h => h) (Or.inl ⟨by rfl, by rintro w' ⟨⟨s1, s2⟩, s3, s4⟩; go_simp⟩) hS1 ?_
      refine wpAnyH_take (i := 1) (v := .int .i64 t) rfl (by kernel_rfl) (by kernel_rfl) (by kernel_rfl) (fun _ _ _ h => h) (Or.inl ⟨by rfl, by rintro w' ⟨⟨s1, s2⟩, s3, s4⟩; go_simp⟩) hS1 ?_
      refine wpAnyH_take (i := 2) (v := .agg #[.int .i64 x, .int .i64 y]) rfl (by kernel_rfl) (by kernel_rfl) (by kernel_rfl) (fun _ _ _ h => h) (Or.inl ⟨by rfl, by rintro w' ⟨⟨s1, s2⟩, s3, s4⟩; go_simp⟩) hS1 ?_
      refine wpAnyH_all (rs := [3]) (by kernel_rfl) (by simp) ?_
      intro i hi
      obtain rfl : i = 3 := by simpa using hi
      refine wpOp_now rfl (by rfl) ?_
      go_simp
      have T1' := setB2 (u0 := .slice (some ⟨g, 0, none⟩) n c) (u1 := .slice (some ⟨gh, 0, none⟩) N ch) (keepO O T (by omega))
      have T2' := set_oth (b := w.heap.size) (i := 1) (v := .slice (some ⟨gh, 0, none⟩) N ch) (set_oth (b := w.heap.size) (i := 0) (v := .slice (some ⟨g, 0, none⟩) n c) (keepO O T2 (by omega)) (by omega)) (by omega)
      have hS2 : (fun w' : World => (w'.cell? ⟨w2.heap.size, 0, none⟩ = some (.slice (some ⟨g, 0, none⟩) n c) ∧ w'.cell? ⟨w2.heap.size, 1, none⟩ = some (.slice (some ⟨gh, 0, none⟩) N ch)) ∧ (w'.cell? ⟨w4.heap.size, 0, none⟩ = some (.int .i64 x) ∧ w'.cell? ⟨w4.heap.size, 1, none⟩ = some (.int .i64 y))) ((wr.drew.setCell ⟨w.heap.size, 0, none⟩ (.slice (some ⟨g, 0, none⟩) n c)).setCell ⟨w.heap.size, 1, none⟩ (.slice (some ⟨gh, 0, none⟩) N ch)) := ⟨⟨cellS2 hS1.1.1 (by dsimp only; omega), cellS2 hS1.1.2 (by dsimp only; omega)⟩, cellS2 hS1.2.1 (by dsimp only; omega), cellS2 hS1.2.2 (by dsimp only; omega)⟩
      obtain ⟨d0, d1, df0, df1⟩ := blk2 T2'
      first | refine ⟨hS2, ?_⟩ | refine ⟨hS1, ?_⟩
      refine wpAnyH_take (i := 4) (v := .int .i64 t) rfl (by kernel_rfl) (by kernel_rfl) (by kernel_rfl) (fun _ _ _ h => h) (Or.inl ⟨by rfl, by rintro w' ⟨⟨s1, s2⟩, s3, s4⟩; go_simp⟩) hS2 ?_
      refine wpAnyH_all (rs := [5]) (by kernel_rfl) (by simp) ?_
      intro i hi
      obtain rfl : i = 5 := by simpa using hi
      refine wpOp_now rfl (by rfl) ?_
      go_simp
      refine ⟨hS1, ?_⟩
      refine wpAnyH_done (by kernel_rfl) ?_ _
      try simp only [Exit.then]
      have T3' := set_oth (b := w.heap.size + 1) (i := 1) (v := .int .i64 y) (set_oth (b := w.heap.size + 1) (i := 0) (v := .int .i64 x) T1' (by omega)) (by omega)
      have T4' := setB2 (u0 := .int .i64 x) (u1 := .int .i64 y) T2'
      obtain ⟨v0, v1, _, _⟩ := blk2 T3'
      obtain ⟨v2, v3, _, _⟩ := blk2 T4'
      go_wp2_with fail
      refine bodyPost_ret (v := .tuple #[.agg #[.slice (some ⟨g, 0, none⟩) n c, .slice (some ⟨gh, 0, none⟩) N ch], .int .i64 t, .agg #[.int .i64 x, .int .i64 y]]) (by simp [results, Tryz.results53, go_sem, v0, v1, v2, v3]) rfl ?_
      refine ⟨⟨g, n, c, l⟩, _, hs, t, x, y, rfl, ht, hPB, ((((hDz.set (by omega) _).set (by omega) _).set (by omega) _).set (by omega) _).mono (by omega), ⟨hs3, hst⟩, _, ?_, (((R.drew.set (by show r < w.heap.size; omega) _).set (by show r < w.heap.size; omega) _).set (by show r < w.heap.size + 1; omega) _).set (by show r < w.heap.size + 1; omega) _,
        ((((P4.trans O.drew).set (.inr (Nat.le_refl _)) _).set (.inr (Nat.le_refl _)) _).set (.inr (Nat.le_succ _)) _).set (.inr (Nat.le_succ _)) _⟩
      omega
end Go.Proofs.YtmdjhoknlplecaaGreatDoor
namespace Go.Proofs.YtmdjhoknlplecaaGreatDoor
open Go.RowKit Go.Sort

set_option maxRecDepth 100000 in
set_option maxHeartbeats 4000000 in
theorem drawToolFits_any {a : Option Addr} {len0 cap : Nat} {zs : List Int} (w0 w : World) (h : IsRow .u8 w0 a len0 cap zs) (hb : Below w0.heap.size w0 w) :
    Calls Tryz.prog 19 #[.slice a len0 cap] w fun e w' => ∃ (o : LoopT) (hv : Value) (hs : List LoopT) (t x y : Int), e = .returned (.tuple #[.agg #[o.v, hv], .int .i64 t, .agg #[.int .i64 x, .int .i64 y]]) ∧ (-1 ≤ t ∧ t ≤ 10) ∧ PB x y ∧ PlD w.heap.size w' o hv hs ∧ (hs.length ≤ 3 ∧ Seat hv) ∧ Below w.heap.size w w' := by
  have hmx : Tryz.prog.follows .mixedOrders = true := by kernel_rfl
  obtain ⟨W, hW, BW, T, T2⟩ := boxes2 w (.cells #[.slice none 0 0, .slice none 0 0] 33) (.cells #[.int .i64 0, .int .i64 0] 35)
  go_enter Tryz.func19, Tryz.ntmps19
  go_wp2_with fail
  rw [← hW]
  clear hW
  refine (open_rd w0 _ h (bw_trans hb BW)).mono ?_
  rintro e w1 ⟨len, rfl, R, hb1⟩
  have zT := blk_lt T
  have zT2 := blk_lt T2
  replace T := keep hb1 T
  replace T2 := keep hb1 T2
  have K := bw_trans BW hb1
  have z1 := hb1.size
  have zr := R.lt
  clear hb1 BW
  go_wp2_with fail
  refine (pick_rd 5 0 a len cap _ _ (by omega) (by omega) R).mono ?_
  clear R
  rintro e w2 ⟨q, rfl, qa, qb, R, O⟩
  replace T := keepO O T (by omega)
  replace T2 := keepO O T2 (by omega)
  replace K := K.trans (O.below' (B := w.heap.size) (by omega) (by have := K.size; omega))
  have z2 := O.size
  clear O
  by_cases hq : q = 0
  · subst hq
    go_wp2_with fail
    refine (plate_any 1 a len cap _ _ (by omega) R).mono ?_
    clear R
    rintro e w3 ⟨⟨g, n, c, l⟩, hv, hs, k2, he, hD, ⟨hs3, hst⟩, hk2, R, O⟩
    obtain rfl : e = .returned (.agg #[.slice (some ⟨g, 0, none⟩) n c, hv]) := he
    replace T := keepO O T (by omega)
    replace T2 := keepO O T2 (by omega)
    replace K := K.trans (O.below' (B := w.heap.size) (by omega) (by have := K.size; omega))
    have z3 := O.size
    clear O
    go_wp2_with fail
    refine (l71Tool_any k2 a len cap _ _ (by omega) R).mono ?_
    clear R
    rintro e w4 ⟨t, k3, rfl, ht, hk3, R, O⟩
    replace T := keepO O T (by omega)
    replace T2 := keepO O T2 (by omega)
    replace hD := hD.only O (by omega)
    replace K := K.trans (O.below' (B := w.heap.size) (by omega) (by have := K.size; omega))
    have z4 := O.size
    clear O
    go_wp2_with fail
    refine (l71Pt_any k3 a len cap _ _ (by omega) R).mono ?_
    clear R
    rintro e w5 ⟨x, y, k4, rfl, hPB, hk4, R, O⟩
    replace T := keepO O T (by omega)
    replace T2 := keepO O T2 (by omega)
    replace hD := hD.only O (by omega)
    replace K := K.trans (O.below' (B := w.heap.size) (by omega) (by have := K.size; omega))
    have z5 := O.size
    clear O
    obtain ⟨gh, ch, rfl⟩ : ∃ gh ch, hv = .slice (some ⟨gh, 0, none⟩) hs.length ch := own_seat hD.2.2.1 hst
    obtain ⟨a0, a1, af0, af1⟩ := blk2 T
    obtain ⟨b0, b1, bf0, bf1⟩ := blk2 T2
    go_wp2_with fail
    have T' := set_oth (b := w.heap.size + 1) (i := 1) (v := .int .i64 y) (set_oth (b := w.heap.size + 1) (i := 0) (v := .int .i64 x) (setB2 (u0 := .slice (some ⟨g, 0, none⟩) n c) (u1 := .slice (some ⟨gh, 0, none⟩) hs.length ch) T) (by omega)) (by omega)
    have T2' := setB2 (u0 := .int .i64 x) (u1 := .int .i64 y) (set_oth (b := w.heap.size) (i := 1) (v := .slice (some ⟨gh, 0, none⟩) hs.length ch) (set_oth (b := w.heap.size) (i := 0) (v := .slice (some ⟨g, 0, none⟩) n c) T2 (by omega)) (by omega))
    obtain ⟨v0, v1, _, _⟩ := blk2 T'
    obtain ⟨v2, v3, _, _⟩ := blk2 T2'
    refine bodyPost_ret (v := .tuple #[.agg #[.slice (some ⟨g, 0, none⟩) n c, .slice (some ⟨gh, 0, none⟩) hs.length ch], .int .i64 t, .agg #[.int .i64 x, .int .i64 y]]) (by simp [results, Tryz.results19, go_sem, v0, v1, v2, v3]) rfl ?_
    exact ⟨⟨g, n, c, l⟩, _, hs, t, x, y, rfl, ht, hPB, ((((hD.set (by omega) _).set (by omega) _).set (by omega) _).set (by omega) _).mono (by omega), ⟨hs3, hst⟩, (((K.setCell (p := ⟨w.heap.size, 0, none⟩) (Nat.le_refl _) _).setCell (p := ⟨w.heap.size, 1, none⟩) (Nat.le_refl _) _).setCell (p := ⟨w.heap.size + 1, 0, none⟩) (Nat.le_succ _) _).setCell (p := ⟨w.heap.size + 1, 1, none⟩) (Nat.le_succ _) _⟩
  · have hq' : (q == 0) = false := by simpa using hq
    go_wp2_with fail
    refine (l71Stand_any 1 a len cap _ _ (by omega) R).mono ?_
    clear R
    rintro e w3 ⟨⟨g, n, c, l⟩, hv, hs, t, x, y, k2, he, ht, hPB, hD, ⟨hs3, hst⟩, hk2, R, O⟩
    obtain rfl : e = .returned (.tuple #[.agg #[.slice (some ⟨g, 0, none⟩) n c, hv], .int .i64 t, .agg #[.int .i64 x, .int .i64 y]]) := he
    replace T := keepO O T (by omega)
    replace T2 := keepO O T2 (by omega)
    replace K := K.trans (O.below' (B := w.heap.size) (by omega) (by have := K.size; omega))
    have z3 := O.size
    clear O
    obtain ⟨gh, ch, rfl⟩ : ∃ gh ch, hv = .slice (some ⟨gh, 0, none⟩) hs.length ch := own_seat hD.2.2.1 hst
    obtain ⟨a0, a1, af0, af1⟩ := blk2 T
    obtain ⟨b0, b1, bf0, bf1⟩ := blk2 T2
    go_wp2_with fail
    have T' := set_oth (b := w.heap.size + 1) (i := 1) (v := .int .i64 y) (set_oth (b := w.heap.size + 1) (i := 0) (v := .int .i64 x) (setB2 (u0 := .slice (some ⟨g, 0, none⟩) n c) (u1 := .slice (some ⟨gh, 0, none⟩) hs.length ch) T) (by omega)) (by omega)
    have T2' := setB2 (u0 := .int .i64 x) (u1 := .int .i64 y) (set_oth (b := w.heap.size) (i := 1) (v := .slice (some ⟨gh, 0, none⟩) hs.length ch) (set_oth (b := w.heap.size) (i := 0) (v := .slice (some ⟨g, 0, none⟩) n c) T2 (by omega)) (by omega))
    obtain ⟨v0, v1, _, _⟩ := blk2 T'
    obtain ⟨v2, v3, _, _⟩ := blk2 T2'
    refine bodyPost_ret (v := .tuple #[.agg #[.slice (some ⟨g, 0, none⟩) n c, .slice (some ⟨gh, 0, none⟩) hs.length ch], .int .i64 t, .agg #[.int .i64 x, .int .i64 y]]) (by simp [results, Tryz.results19, go_sem, v0, v1, v2, v3]) rfl ?_
    exact ⟨⟨g, n, c, l⟩, _, hs, t, x, y, rfl, ht, hPB, ((((hD.set (by omega) _).set (by omega) _).set (by omega) _).set (by omega) _).mono (by omega), ⟨hs3, hst⟩, (((K.setCell (p := ⟨w.heap.size, 0, none⟩) (Nat.le_refl _) _).setCell (p := ⟨w.heap.size, 1, none⟩) (Nat.le_refl _) _).setCell (p := ⟨w.heap.size + 1, 0, none⟩) (Nat.le_succ _) _).setCell (p := ⟨w.heap.size + 1, 1, none⟩) (Nat.le_succ _) _⟩
end Go.Proofs.YtmdjhoknlplecaaGreatDoor
namespace Go.Proofs.YtmdjhoknlplecaaGreatDoor
open Go.RowKit Go.Sort

theorem cmpI_lt (x y : Int) (h : x < y) : cmpI x y = -1 := by unfold cmpI; rw [if_pos h]
theorem cmpI_ge (x y : Int) (h : ¬ x < y) : ¬ cmpI x y < 0 := by unfold cmpI; rw [if_neg h]; split <;> omega
/-- The block of three fractions. -/
def Three (w : World) (b : Nat) (f g h : Int × Int) : Prop := w.heap[b]? = some (.cells #[.int .i64 f.1, .int .i64 f.2, .int .i64 g.1, .int .i64 g.2, .int .i64 h.1, .int .i64 h.2] 47 (0, 0))
theorem setO2 {w : World} {b b' i j : Nat} {v u : Value} {o : Obj} (h : w.heap[b']? = some o) (hne : b' ≠ b) : ((w.setCell ⟨b, i, none⟩ v).setCell ⟨b, j, none⟩ u).heap[b']? = some o := by
  rw [Below.heap_setCell _ _ _ _ (by show b' ≠ b; exact hne), Below.heap_setCell _ _ _ _ (by show b' ≠ b; exact hne)]; exact h
theorem blk_6 {w : World} {b : Nat} {x0 x1 x2 x3 x4 x5 : Value} {t : TypeId} (h : w.heap[b]? = some (.cells #[x0, x1, x2, x3, x4, x5] t (0, 0))) :
    w.cell? ⟨b, 0, none⟩ = some x0 ∧ w.cell? ⟨b, 1, none⟩ = some x1 ∧ w.cell? ⟨b, 2, none⟩ = some x2 ∧ w.cell? ⟨b, 3, none⟩ = some x3 ∧ w.cell? ⟨b, 4, none⟩ = some x4 ∧ w.cell? ⟨b, 5, none⟩ = some x5 := by
  refine ⟨?_, ?_, ?_, ?_, ?_, ?_⟩ <;> simp [World.cell?, h]
set_option maxHeartbeats 2000000 in
theorem least_ok (f0 f1 f2 f3 : Int × Int) (bs : Nat) (ad : Addr) (w : World) (h0 : Sent ad w) (o0 : OkF f0) (o1 : OkF f1) (o2 : OkF f2) (o3 : OkF f3) (TH : Three w bs f1 f2 f3) :
    Calls Tryz.prog 70 #[.agg #[.int .i64 f0.1, .int .i64 f0.2], .slice (some ⟨bs, 0, none⟩) 3 3] w fun e w' => e = .returned (.agg #[.int .i64 (mnA f0 f1 f2 f3).1, .int .i64 (mnA f0 f1 f2 f3).2]) ∧ Below w.heap.size w w' := by
  unfold Three at TH
  have zb := blk_lt TH
  obtain ⟨W, hW, H, _, RB, LB⟩ := boxes3 w (.cells #[.int .i64 f0.1, .int .i64 f0.2] 47) (.cells #[.int .i64 0, .int .i64 0] 47) (.cells #[.int .i64 f0.1, .int .i64 f0.2] 47)
  replace TH := keep H TH
  have nb : bs ≠ w.heap.size + 1 ∧ bs ≠ w.heap.size + 2 := by omega
  obtain ⟨nb1, nb2⟩ := nb
  go_enter Tryz.func70, Tryz.ntmps70
  go_upto_region 3 with fail
  rw [← hW]
  clear hW
  refine wp_loop_rounds 4 ?_
  rw [rounds_succ]
  obtain ⟨t0, t1, t2, t3, t4, t5⟩ := blk_6 TH
  obtain ⟨l0, l1⟩ := blk_2 LB
  have zl := blk_lt LB
  have zt := blk_lt TH
  have hs1 := h0.below H
  by_cases c1 : f1.1 * f0.2 < f0.1 * f1.2
  · have m1 : mn f0 f1 = f1 := if_pos c1
    have e1 := cmpI_lt _ _ c1
    clear c1
    go_wp2_with fail
    refine (fracCmp_both f1.1 f1.2 f0.1 f0.2 ad _ (hs1.below (bw_alloc (bw_refl _) _)) o1 o0).mono ?_
    rw [e1]
    rintro e w1 ⟨rfl, K⟩
    have FB := keep K (heap_new _ _)
    replace LB := keep K ((heap_old _ _ (blk_lt LB)).trans LB)
    replace RB := keep K ((heap_old _ _ (blk_lt RB)).trans RB)
    replace TH := keep K ((heap_old _ _ (blk_lt TH)).trans TH)
    replace H := bw_trans (bw_alloc H _) K
    clear t0 t1 t2 t3 t4 t5 l0 l1 K hs1
    have zf := blk_lt FB
    have zl1 := blk_lt LB
    obtain ⟨u0, u1⟩ := blk_2 FB
    obtain ⟨q0, q1, qf0, qf1⟩ := blkF LB
    go_wp2_with fail
    replace LB := setF2 LB (u0 := .int .i64 f1.1) (u1 := .int .i64 f1.2)
    replace RB := setO2 RB (b := w.heap.size + 2) (i := 0) (j := 1) (v := .int .i64 f1.1) (u := .int .i64 f1.2) (by omega)
    replace TH := setO2 TH (b := w.heap.size + 2) (i := 0) (j := 1) (v := .int .i64 f1.1) (u := .int .i64 f1.2) (by omega)
    replace H := bw_set (bw_set H (p := ⟨w.heap.size + 2, 0, none⟩) (by dsimp only; omega) (.int .i64 f1.1)) (p := ⟨w.heap.size + 2, 1, none⟩) (by dsimp only; omega) (.int .i64 f1.2)
    clear q0 q1 qf0 qf1 e1
    generalize ((w1.setCell ⟨w.heap.size + 2, 0, none⟩ (.int .i64 f1.1)).setCell ⟨w.heap.size + 2, 1, none⟩ (.int .i64 f1.2)) = V1 at LB RB TH H ⊢
    clear u0 u1 FB zf zl zl1 zt
    rw [rounds_succ]
    obtain ⟨t0, t1, t2, t3, t4, t5⟩ := blk_6 TH
    obtain ⟨l0, l1⟩ := blk_2 LB
    have zl := blk_lt LB
    have zt := blk_lt TH
    have hs2 := h0.below H
    by_cases c2 : f2.1 * f1.2 < f1.1 * f2.2
    · have m2 : mn f1 f2 = f2 := if_pos c2
      have e2 := cmpI_lt _ _ c2
      clear c2
      go_wp2_with fail
      refine (fracCmp_both f2.1 f2.2 f1.1 f1.2 ad _ (hs2.below (bw_alloc (bw_refl _) _)) o2 o1).mono ?_
      rw [e2]
      rintro e w2 ⟨rfl, K⟩
      have FB := keep K (heap_new _ _)
      replace LB := keep K ((heap_old _ _ (blk_lt LB)).trans LB)
      replace RB := keep K ((heap_old _ _ (blk_lt RB)).trans RB)
      replace TH := keep K ((heap_old _ _ (blk_lt TH)).trans TH)
      replace H := bw_trans (bw_alloc H _) K
      clear t0 t1 t2 t3 t4 t5 l0 l1 K hs2
      have zf := blk_lt FB
      have zl2 := blk_lt LB
      obtain ⟨u0, u1⟩ := blk_2 FB
      obtain ⟨q0, q1, qf0, qf1⟩ := blkF LB
      go_wp2_with fail
      replace LB := setF2 LB (u0 := .int .i64 f2.1) (u1 := .int .i64 f2.2)
      replace RB := setO2 RB (b := w.heap.size + 2) (i := 0) (j := 1) (v := .int .i64 f2.1) (u := .int .i64 f2.2) (by omega)
      replace TH := setO2 TH (b := w.heap.size + 2) (i := 0) (j := 1) (v := .int .i64 f2.1) (u := .int .i64 f2.2) (by omega)
      replace H := bw_set (bw_set H (p := ⟨w.heap.size + 2, 0, none⟩) (by dsimp only; omega) (.int .i64 f2.1)) (p := ⟨w.heap.size + 2, 1, none⟩) (by dsimp only; omega) (.int .i64 f2.2)
      clear q0 q1 qf0 qf1 e2
      generalize ((w2.setCell ⟨w.heap.size + 2, 0, none⟩ (.int .i64 f2.1)).setCell ⟨w.heap.size + 2, 1, none⟩ (.int .i64 f2.2)) = V2 at LB RB TH H ⊢
      clear u0 u1 FB zf zl zl2 zt
      rw [rounds_succ]
      obtain ⟨t0, t1, t2, t3, t4, t5⟩ := blk_6 TH
      obtain ⟨l0, l1⟩ := blk_2 LB
      have zl := blk_lt LB
      have zt := blk_lt TH
      have hs3 := h0.below H
      by_cases c3 : f3.1 * f2.2 < f2.1 * f3.2
      · have m3 : mn f2 f3 = f3 := if_pos c3
        have e3 := cmpI_lt _ _ c3
        clear c3
        go_wp2_with fail
        refine (fracCmp_both f3.1 f3.2 f2.1 f2.2 ad _ (hs3.below (bw_alloc (bw_refl _) _)) o3 o2).mono ?_
        rw [e3]
        rintro e w3 ⟨rfl, K⟩
        have FB := keep K (heap_new _ _)
        replace LB := keep K ((heap_old _ _ (blk_lt LB)).trans LB)
        replace RB := keep K ((heap_old _ _ (blk_lt RB)).trans RB)
        replace TH := keep K ((heap_old _ _ (blk_lt TH)).trans TH)
        replace H := bw_trans (bw_alloc H _) K
        clear t0 t1 t2 t3 t4 t5 l0 l1 K hs3
        have zf := blk_lt FB
        have zl3 := blk_lt LB
        obtain ⟨u0, u1⟩ := blk_2 FB
        obtain ⟨q0, q1, qf0, qf1⟩ := blkF LB
        go_wp2_with fail
        replace LB := setF2 LB (u0 := .int .i64 f3.1) (u1 := .int .i64 f3.2)
        replace RB := setO2 RB (b := w.heap.size + 2) (i := 0) (j := 1) (v := .int .i64 f3.1) (u := .int .i64 f3.2) (by omega)
        replace TH := setO2 TH (b := w.heap.size + 2) (i := 0) (j := 1) (v := .int .i64 f3.1) (u := .int .i64 f3.2) (by omega)
        replace H := bw_set (bw_set H (p := ⟨w.heap.size + 2, 0, none⟩) (by dsimp only; omega) (.int .i64 f3.1)) (p := ⟨w.heap.size + 2, 1, none⟩) (by dsimp only; omega) (.int .i64 f3.2)
        clear q0 q1 qf0 qf1 e3
        generalize ((w3.setCell ⟨w.heap.size + 2, 0, none⟩ (.int .i64 f3.1)).setCell ⟨w.heap.size + 2, 1, none⟩ (.int .i64 f3.2)) = V3 at LB RB TH H ⊢
        clear u0 u1 FB zf zl zl3 zt
        rw [rounds_succ]
        obtain ⟨l0, l1⟩ := blk_2 LB
        have zl := blk_lt LB
        have zr := blk_lt RB
        obtain ⟨q0, q1, qf0, qf1⟩ := blkF RB
        have R2 := setF2 RB (u0 := .int .i64 f3.1) (u1 := .int .i64 f3.2)
        obtain ⟨r0, r1⟩ := blk_2 R2
        have HB : Hid _ := H
        have e1 : Hid (mnA f0 f1 f2 f3 = f3) := by change _ = _; unfold mnA; rw [m1, m2, m3]
        clear R2 RB LB TH H m1 m2 m3
        go_wp2_with fail
        exact bodyPost_ret (v := .agg #[.int .i64 f3.1, .int .i64 f3.2]) (by simp [results, Tryz.results70, go_sem, r0, r1]) rfl ⟨by rw [e1.out], by repeat (first | with_reducible exact HB.out | with_reducible refine bw_set ?_ (by dsimp only; omega) _)⟩
      · have m3 : mn f2 f3 = f2 := if_neg c3
        have g3 := cmpI_ge _ _ c3
        generalize hx3 : cmpI (f3.1 * f2.2) (f2.1 * f3.2) = x3 at g3
        have HX3 : Hid (cmpI (f3.1 * f2.2) (f2.1 * f3.2) = x3) := hx3
        have p3 : 0 ≤ x3 := by omega
        clear hx3 g3
        clear c3
        go_wp2_with fail
        refine (fracCmp_both f3.1 f3.2 f2.1 f2.2 ad _ (hs3.below (bw_alloc (bw_refl _) _)) o3 o2).mono ?_
        rw [HX3.out]
        rintro e w3 ⟨rfl, K⟩
        have FB := keep K (heap_new _ _)
        replace LB := keep K ((heap_old _ _ (blk_lt LB)).trans LB)
        replace RB := keep K ((heap_old _ _ (blk_lt RB)).trans RB)
        replace TH := keep K ((heap_old _ _ (blk_lt TH)).trans TH)
        replace H := bw_trans (bw_alloc H _) K
        clear t0 t1 t2 t3 t4 t5 l0 l1 K hs3
        have zf := blk_lt FB
        have zl3 := blk_lt LB
        obtain ⟨u0, u1⟩ := blk_2 FB
        go_wp2_with fail
        clear u0 u1 FB zf zl zl3 zt
        rw [rounds_succ]
        obtain ⟨l0, l1⟩ := blk_2 LB
        have zl := blk_lt LB
        have zr := blk_lt RB
        obtain ⟨q0, q1, qf0, qf1⟩ := blkF RB
        have R2 := setF2 RB (u0 := .int .i64 f2.1) (u1 := .int .i64 f2.2)
        obtain ⟨r0, r1⟩ := blk_2 R2
        have HB : Hid _ := H
        have e1 : Hid (mnA f0 f1 f2 f3 = f2) := by change _ = _; unfold mnA; rw [m1, m2, m3]
        clear R2 RB LB TH H m1 m2 m3
        go_wp2_with fail
        exact bodyPost_ret (v := .agg #[.int .i64 f2.1, .int .i64 f2.2]) (by simp [results, Tryz.results70, go_sem, r0, r1]) rfl ⟨by rw [e1.out], by repeat (first | with_reducible exact HB.out | with_reducible refine bw_set ?_ (by dsimp only; omega) _)⟩
    · have m2 : mn f1 f2 = f1 := if_neg c2
      have g2 := cmpI_ge _ _ c2
      generalize hx2 : cmpI (f2.1 * f1.2) (f1.1 * f2.2) = x2 at g2
      have HX2 : Hid (cmpI (f2.1 * f1.2) (f1.1 * f2.2) = x2) := hx2
      have p2 : 0 ≤ x2 := by omega
      clear hx2 g2
      clear c2
      go_wp2_with fail
      refine (fracCmp_both f2.1 f2.2 f1.1 f1.2 ad _ (hs2.below (bw_alloc (bw_refl _) _)) o2 o1).mono ?_
      rw [HX2.out]
      rintro e w2 ⟨rfl, K⟩
      have FB := keep K (heap_new _ _)
      replace LB := keep K ((heap_old _ _ (blk_lt LB)).trans LB)
      replace RB := keep K ((heap_old _ _ (blk_lt RB)).trans RB)
      replace TH := keep K ((heap_old _ _ (blk_lt TH)).trans TH)
      replace H := bw_trans (bw_alloc H _) K
      clear t0 t1 t2 t3 t4 t5 l0 l1 K hs2
      have zf := blk_lt FB
      have zl2 := blk_lt LB
      obtain ⟨u0, u1⟩ := blk_2 FB
      go_wp2_with fail
      clear u0 u1 FB zf zl zl2 zt
      rw [rounds_succ]
      obtain ⟨t0, t1, t2, t3, t4, t5⟩ := blk_6 TH
      obtain ⟨l0, l1⟩ := blk_2 LB
      have zl := blk_lt LB
      have zt := blk_lt TH
      have hs3 := h0.below H
      by_cases c3 : f3.1 * f1.2 < f1.1 * f3.2
      · have m3 : mn f1 f3 = f3 := if_pos c3
        have e3 := cmpI_lt _ _ c3
        clear c3
        go_wp2_with fail
        refine (fracCmp_both f3.1 f3.2 f1.1 f1.2 ad _ (hs3.below (bw_alloc (bw_refl _) _)) o3 o1).mono ?_
        rw [e3]
        rintro e w3 ⟨rfl, K⟩
        have FB := keep K (heap_new _ _)
        replace LB := keep K ((heap_old _ _ (blk_lt LB)).trans LB)
        replace RB := keep K ((heap_old _ _ (blk_lt RB)).trans RB)
        replace TH := keep K ((heap_old _ _ (blk_lt TH)).trans TH)
        replace H := bw_trans (bw_alloc H _) K
        clear t0 t1 t2 t3 t4 t5 l0 l1 K hs3
        have zf := blk_lt FB
        have zl3 := blk_lt LB
        obtain ⟨u0, u1⟩ := blk_2 FB
        obtain ⟨q0, q1, qf0, qf1⟩ := blkF LB
        go_wp2_with fail
        replace LB := setF2 LB (u0 := .int .i64 f3.1) (u1 := .int .i64 f3.2)
        replace RB := setO2 RB (b := w.heap.size + 2) (i := 0) (j := 1) (v := .int .i64 f3.1) (u := .int .i64 f3.2) (by omega)
        replace TH := setO2 TH (b := w.heap.size + 2) (i := 0) (j := 1) (v := .int .i64 f3.1) (u := .int .i64 f3.2) (by omega)
        replace H := bw_set (bw_set H (p := ⟨w.heap.size + 2, 0, none⟩) (by dsimp only; omega) (.int .i64 f3.1)) (p := ⟨w.heap.size + 2, 1, none⟩) (by dsimp only; omega) (.int .i64 f3.2)
        clear q0 q1 qf0 qf1 e3
        generalize ((w3.setCell ⟨w.heap.size + 2, 0, none⟩ (.int .i64 f3.1)).setCell ⟨w.heap.size + 2, 1, none⟩ (.int .i64 f3.2)) = V3 at LB RB TH H ⊢
        clear u0 u1 FB zf zl zl3 zt
        rw [rounds_succ]
        obtain ⟨l0, l1⟩ := blk_2 LB
        have zl := blk_lt LB
        have zr := blk_lt RB
        obtain ⟨q0, q1, qf0, qf1⟩ := blkF RB
        have R2 := setF2 RB (u0 := .int .i64 f3.1) (u1 := .int .i64 f3.2)
        obtain ⟨r0, r1⟩ := blk_2 R2
        have HB : Hid _ := H
        have e1 : Hid (mnA f0 f1 f2 f3 = f3) := by change _ = _; unfold mnA; rw [m1, m2, m3]
        clear R2 RB LB TH H m1 m2 m3
        go_wp2_with fail
        exact bodyPost_ret (v := .agg #[.int .i64 f3.1, .int .i64 f3.2]) (by simp [results, Tryz.results70, go_sem, r0, r1]) rfl ⟨by rw [e1.out], by repeat (first | with_reducible exact HB.out | with_reducible refine bw_set ?_ (by dsimp only; omega) _)⟩
      · have m3 : mn f1 f3 = f1 := if_neg c3
        have g3 := cmpI_ge _ _ c3
        generalize hx3 : cmpI (f3.1 * f1.2) (f1.1 * f3.2) = x3 at g3
        have HX3 : Hid (cmpI (f3.1 * f1.2) (f1.1 * f3.2) = x3) := hx3
        have p3 : 0 ≤ x3 := by omega
        clear hx3 g3
        clear c3
        go_wp2_with fail
        refine (fracCmp_both f3.1 f3.2 f1.1 f1.2 ad _ (hs3.below (bw_alloc (bw_refl _) _)) o3 o1).mono ?_
        rw [HX3.out]
        rintro e w3 ⟨rfl, K⟩
        have FB := keep K (heap_new _ _)
        replace LB := keep K ((heap_old _ _ (blk_lt LB)).trans LB)
        replace RB := keep K ((heap_old _ _ (blk_lt RB)).trans RB)
        replace TH := keep K ((heap_old _ _ (blk_lt TH)).trans TH)
        replace H := bw_trans (bw_alloc H _) K
        clear t0 t1 t2 t3 t4 t5 l0 l1 K hs3
        have zf := blk_lt FB
        have zl3 := blk_lt LB
        obtain ⟨u0, u1⟩ := blk_2 FB
        go_wp2_with fail
        clear u0 u1 FB zf zl zl3 zt
        rw [rounds_succ]
        obtain ⟨l0, l1⟩ := blk_2 LB
        have zl := blk_lt LB
        have zr := blk_lt RB
        obtain ⟨q0, q1, qf0, qf1⟩ := blkF RB
        have R2 := setF2 RB (u0 := .int .i64 f1.1) (u1 := .int .i64 f1.2)
        obtain ⟨r0, r1⟩ := blk_2 R2
        have HB : Hid _ := H
        have e1 : Hid (mnA f0 f1 f2 f3 = f1) := by change _ = _; unfold mnA; rw [m1, m2, m3]
        clear R2 RB LB TH H m1 m2 m3
        go_wp2_with fail
        exact bodyPost_ret (v := .agg #[.int .i64 f1.1, .int .i64 f1.2]) (by simp [results, Tryz.results70, go_sem, r0, r1]) rfl ⟨by rw [e1.out], by repeat (first | with_reducible exact HB.out | with_reducible refine bw_set ?_ (by dsimp only; omega) _)⟩
  · have m1 : mn f0 f1 = f0 := if_neg c1
    have g1 := cmpI_ge _ _ c1
    generalize hx1 : cmpI (f1.1 * f0.2) (f0.1 * f1.2) = x1 at g1
    have HX1 : Hid (cmpI (f1.1 * f0.2) (f0.1 * f1.2) = x1) := hx1
    have p1 : 0 ≤ x1 := by omega
    clear hx1 g1
    clear c1
    go_wp2_with fail
    refine (fracCmp_both f1.1 f1.2 f0.1 f0.2 ad _ (hs1.below (bw_alloc (bw_refl _) _)) o1 o0).mono ?_
    rw [HX1.out]
    rintro e w1 ⟨rfl, K⟩
    have FB := keep K (heap_new _ _)
    replace LB := keep K ((heap_old _ _ (blk_lt LB)).trans LB)
    replace RB := keep K ((heap_old _ _ (blk_lt RB)).trans RB)
    replace TH := keep K ((heap_old _ _ (blk_lt TH)).trans TH)
    replace H := bw_trans (bw_alloc H _) K
    clear t0 t1 t2 t3 t4 t5 l0 l1 K hs1
    have zf := blk_lt FB
    have zl1 := blk_lt LB
    obtain ⟨u0, u1⟩ := blk_2 FB
    go_wp2_with fail
    clear u0 u1 FB zf zl zl1 zt
    rw [rounds_succ]
    obtain ⟨t0, t1, t2, t3, t4, t5⟩ := blk_6 TH
    obtain ⟨l0, l1⟩ := blk_2 LB
    have zl := blk_lt LB
    have zt := blk_lt TH
    have hs2 := h0.below H
    by_cases c2 : f2.1 * f0.2 < f0.1 * f2.2
    · have m2 : mn f0 f2 = f2 := if_pos c2
      have e2 := cmpI_lt _ _ c2
      clear c2
      go_wp2_with fail
      refine (fracCmp_both f2.1 f2.2 f0.1 f0.2 ad _ (hs2.below (bw_alloc (bw_refl _) _)) o2 o0).mono ?_
      rw [e2]
      rintro e w2 ⟨rfl, K⟩
      have FB := keep K (heap_new _ _)
      replace LB := keep K ((heap_old _ _ (blk_lt LB)).trans LB)
      replace RB := keep K ((heap_old _ _ (blk_lt RB)).trans RB)
      replace TH := keep K ((heap_old _ _ (blk_lt TH)).trans TH)
      replace H := bw_trans (bw_alloc H _) K
      clear t0 t1 t2 t3 t4 t5 l0 l1 K hs2
      have zf := blk_lt FB
      have zl2 := blk_lt LB
      obtain ⟨u0, u1⟩ := blk_2 FB
      obtain ⟨q0, q1, qf0, qf1⟩ := blkF LB
      go_wp2_with fail
      replace LB := setF2 LB (u0 := .int .i64 f2.1) (u1 := .int .i64 f2.2)
      replace RB := setO2 RB (b := w.heap.size + 2) (i := 0) (j := 1) (v := .int .i64 f2.1) (u := .int .i64 f2.2) (by omega)
      replace TH := setO2 TH (b := w.heap.size + 2) (i := 0) (j := 1) (v := .int .i64 f2.1) (u := .int .i64 f2.2) (by omega)
      replace H := bw_set (bw_set H (p := ⟨w.heap.size + 2, 0, none⟩) (by dsimp only; omega) (.int .i64 f2.1)) (p := ⟨w.heap.size + 2, 1, none⟩) (by dsimp only; omega) (.int .i64 f2.2)
      clear q0 q1 qf0 qf1 e2
      generalize ((w2.setCell ⟨w.heap.size + 2, 0, none⟩ (.int .i64 f2.1)).setCell ⟨w.heap.size + 2, 1, none⟩ (.int .i64 f2.2)) = V2 at LB RB TH H ⊢
      clear u0 u1 FB zf zl zl2 zt
      rw [rounds_succ]
      obtain ⟨t0, t1, t2, t3, t4, t5⟩ := blk_6 TH
      obtain ⟨l0, l1⟩ := blk_2 LB
      have zl := blk_lt LB
      have zt := blk_lt TH
      have hs3 := h0.below H
      by_cases c3 : f3.1 * f2.2 < f2.1 * f3.2
      · have m3 : mn f2 f3 = f3 := if_pos c3
        have e3 := cmpI_lt _ _ c3
        clear c3
        go_wp2_with fail
        refine (fracCmp_both f3.1 f3.2 f2.1 f2.2 ad _ (hs3.below (bw_alloc (bw_refl _) _)) o3 o2).mono ?_
        rw [e3]
        rintro e w3 ⟨rfl, K⟩
        have FB := keep K (heap_new _ _)
        replace LB := keep K ((heap_old _ _ (blk_lt LB)).trans LB)
        replace RB := keep K ((heap_old _ _ (blk_lt RB)).trans RB)
        replace TH := keep K ((heap_old _ _ (blk_lt TH)).trans TH)
        replace H := bw_trans (bw_alloc H _) K
        clear t0 t1 t2 t3 t4 t5 l0 l1 K hs3
        have zf := blk_lt FB
        have zl3 := blk_lt LB
        obtain ⟨u0, u1⟩ := blk_2 FB
        obtain ⟨q0, q1, qf0, qf1⟩ := blkF LB
        go_wp2_with fail
        replace LB := setF2 LB (u0 := .int .i64 f3.1) (u1 := .int .i64 f3.2)
        replace RB := setO2 RB (b := w.heap.size + 2) (i := 0) (j := 1) (v := .int .i64 f3.1) (u := .int .i64 f3.2) (by omega)
        replace TH := setO2 TH (b := w.heap.size + 2) (i := 0) (j := 1) (v := .int .i64 f3.1) (u := .int .i64 f3.2) (by omega)
        replace H := bw_set (bw_set H (p := ⟨w.heap.size + 2, 0, none⟩) (by dsimp only; omega) (.int .i64 f3.1)) (p := ⟨w.heap.size + 2, 1, none⟩) (by dsimp only; omega) (.int .i64 f3.2)
        clear q0 q1 qf0 qf1 e3
        generalize ((w3.setCell ⟨w.heap.size + 2, 0, none⟩ (.int .i64 f3.1)).setCell ⟨w.heap.size + 2, 1, none⟩ (.int .i64 f3.2)) = V3 at LB RB TH H ⊢
        clear u0 u1 FB zf zl zl3 zt
        rw [rounds_succ]
        obtain ⟨l0, l1⟩ := blk_2 LB
        have zl := blk_lt LB
        have zr := blk_lt RB
        obtain ⟨q0, q1, qf0, qf1⟩ := blkF RB
        have R2 := setF2 RB (u0 := .int .i64 f3.1) (u1 := .int .i64 f3.2)
        obtain ⟨r0, r1⟩ := blk_2 R2
        have HB : Hid _ := H
        have e1 : Hid (mnA f0 f1 f2 f3 = f3) := by change _ = _; unfold mnA; rw [m1, m2, m3]
        clear R2 RB LB TH H m1 m2 m3
        go_wp2_with fail
        exact bodyPost_ret (v := .agg #[.int .i64 f3.1, .int .i64 f3.2]) (by simp [results, Tryz.results70, go_sem, r0, r1]) rfl ⟨by rw [e1.out], by repeat (first | with_reducible exact HB.out | with_reducible refine bw_set ?_ (by dsimp only; omega) _)⟩
      · have m3 : mn f2 f3 = f2 := if_neg c3
        have g3 := cmpI_ge _ _ c3
        generalize hx3 : cmpI (f3.1 * f2.2) (f2.1 * f3.2) = x3 at g3
        have HX3 : Hid (cmpI (f3.1 * f2.2) (f2.1 * f3.2) = x3) := hx3
        have p3 : 0 ≤ x3 := by omega
        clear hx3 g3
        clear c3
        go_wp2_with fail
        refine (fracCmp_both f3.1 f3.2 f2.1 f2.2 ad _ (hs3.below (bw_alloc (bw_refl _) _)) o3 o2).mono ?_
        rw [HX3.out]
        rintro e w3 ⟨rfl, K⟩
        have FB := keep K (heap_new _ _)
        replace LB := keep K ((heap_old _ _ (blk_lt LB)).trans LB)
        replace RB := keep K ((heap_old _ _ (blk_lt RB)).trans RB)
        replace TH := keep K ((heap_old _ _ (blk_lt TH)).trans TH)
        replace H := bw_trans (bw_alloc H _) K
        clear t0 t1 t2 t3 t4 t5 l0 l1 K hs3
        have zf := blk_lt FB
        have zl3 := blk_lt LB
        obtain ⟨u0, u1⟩ := blk_2 FB
        go_wp2_with fail
        clear u0 u1 FB zf zl zl3 zt
        rw [rounds_succ]
        obtain ⟨l0, l1⟩ := blk_2 LB
        have zl := blk_lt LB
        have zr := blk_lt RB
        obtain ⟨q0, q1, qf0, qf1⟩ := blkF RB
        have R2 := setF2 RB (u0 := .int .i64 f2.1) (u1 := .int .i64 f2.2)
        obtain ⟨r0, r1⟩ := blk_2 R2
        have HB : Hid _ := H
        have e1 : Hid (mnA f0 f1 f2 f3 = f2) := by change _ = _; unfold mnA; rw [m1, m2, m3]
        clear R2 RB LB TH H m1 m2 m3
        go_wp2_with fail
        exact bodyPost_ret (v := .agg #[.int .i64 f2.1, .int .i64 f2.2]) (by simp [results, Tryz.results70, go_sem, r0, r1]) rfl ⟨by rw [e1.out], by repeat (first | with_reducible exact HB.out | with_reducible refine bw_set ?_ (by dsimp only; omega) _)⟩
    · have m2 : mn f0 f2 = f0 := if_neg c2
      have g2 := cmpI_ge _ _ c2
      generalize hx2 : cmpI (f2.1 * f0.2) (f0.1 * f2.2) = x2 at g2
      have HX2 : Hid (cmpI (f2.1 * f0.2) (f0.1 * f2.2) = x2) := hx2
      have p2 : 0 ≤ x2 := by omega
      clear hx2 g2
      clear c2
      go_wp2_with fail
      refine (fracCmp_both f2.1 f2.2 f0.1 f0.2 ad _ (hs2.below (bw_alloc (bw_refl _) _)) o2 o0).mono ?_
      rw [HX2.out]
      rintro e w2 ⟨rfl, K⟩
      have FB := keep K (heap_new _ _)
      replace LB := keep K ((heap_old _ _ (blk_lt LB)).trans LB)
      replace RB := keep K ((heap_old _ _ (blk_lt RB)).trans RB)
      replace TH := keep K ((heap_old _ _ (blk_lt TH)).trans TH)
      replace H := bw_trans (bw_alloc H _) K
      clear t0 t1 t2 t3 t4 t5 l0 l1 K hs2
      have zf := blk_lt FB
      have zl2 := blk_lt LB
      obtain ⟨u0, u1⟩ := blk_2 FB
      go_wp2_with fail
      clear u0 u1 FB zf zl zl2 zt
      rw [rounds_succ]
      obtain ⟨t0, t1, t2, t3, t4, t5⟩ := blk_6 TH
      obtain ⟨l0, l1⟩ := blk_2 LB
      have zl := blk_lt LB
      have zt := blk_lt TH
      have hs3 := h0.below H
      by_cases c3 : f3.1 * f0.2 < f0.1 * f3.2
      · have m3 : mn f0 f3 = f3 := if_pos c3
        have e3 := cmpI_lt _ _ c3
        clear c3
        go_wp2_with fail
        refine (fracCmp_both f3.1 f3.2 f0.1 f0.2 ad _ (hs3.below (bw_alloc (bw_refl _) _)) o3 o0).mono ?_
        rw [e3]
        rintro e w3 ⟨rfl, K⟩
        have FB := keep K (heap_new _ _)
        replace LB := keep K ((heap_old _ _ (blk_lt LB)).trans LB)
        replace RB := keep K ((heap_old _ _ (blk_lt RB)).trans RB)
        replace TH := keep K ((heap_old _ _ (blk_lt TH)).trans TH)
        replace H := bw_trans (bw_alloc H _) K
        clear t0 t1 t2 t3 t4 t5 l0 l1 K hs3
        have zf := blk_lt FB
        have zl3 := blk_lt LB
        obtain ⟨u0, u1⟩ := blk_2 FB
        obtain ⟨q0, q1, qf0, qf1⟩ := blkF LB
        go_wp2_with fail
        replace LB := setF2 LB (u0 := .int .i64 f3.1) (u1 := .int .i64 f3.2)
        replace RB := setO2 RB (b := w.heap.size + 2) (i := 0) (j := 1) (v := .int .i64 f3.1) (u := .int .i64 f3.2) (by omega)
        replace TH := setO2 TH (b := w.heap.size + 2) (i := 0) (j := 1) (v := .int .i64 f3.1) (u := .int .i64 f3.2) (by omega)
        replace H := bw_set (bw_set H (p := ⟨w.heap.size + 2, 0, none⟩) (by dsimp only; omega) (.int .i64 f3.1)) (p := ⟨w.heap.size + 2, 1, none⟩) (by dsimp only; omega) (.int .i64 f3.2)
        clear q0 q1 qf0 qf1 e3
        generalize ((w3.setCell ⟨w.heap.size + 2, 0, none⟩ (.int .i64 f3.1)).setCell ⟨w.heap.size + 2, 1, none⟩ (.int .i64 f3.2)) = V3 at LB RB TH H ⊢
        clear u0 u1 FB zf zl zl3 zt
        rw [rounds_succ]
        obtain ⟨l0, l1⟩ := blk_2 LB
        have zl := blk_lt LB
        have zr := blk_lt RB
        obtain ⟨q0, q1, qf0, qf1⟩ := blkF RB
        have R2 := setF2 RB (u0 := .int .i64 f3.1) (u1 := .int .i64 f3.2)
        obtain ⟨r0, r1⟩ := blk_2 R2
        have HB : Hid _ := H
        have e1 : Hid (mnA f0 f1 f2 f3 = f3) := by change _ = _; unfold mnA; rw [m1, m2, m3]
        clear R2 RB LB TH H m1 m2 m3
        go_wp2_with fail
        exact bodyPost_ret (v := .agg #[.int .i64 f3.1, .int .i64 f3.2]) (by simp [results, Tryz.results70, go_sem, r0, r1]) rfl ⟨by rw [e1.out], by repeat (first | with_reducible exact HB.out | with_reducible refine bw_set ?_ (by dsimp only; omega) _)⟩
      · have m3 : mn f0 f3 = f0 := if_neg c3
        have g3 := cmpI_ge _ _ c3
        generalize hx3 : cmpI (f3.1 * f0.2) (f0.1 * f3.2) = x3 at g3
        have HX3 : Hid (cmpI (f3.1 * f0.2) (f0.1 * f3.2) = x3) := hx3
        have p3 : 0 ≤ x3 := by omega
        clear hx3 g3
        clear c3
        go_wp2_with fail
        refine (fracCmp_both f3.1 f3.2 f0.1 f0.2 ad _ (hs3.below (bw_alloc (bw_refl _) _)) o3 o0).mono ?_
        rw [HX3.out]
        rintro e w3 ⟨rfl, K⟩
        have FB := keep K (heap_new _ _)
        replace LB := keep K ((heap_old _ _ (blk_lt LB)).trans LB)
        replace RB := keep K ((heap_old _ _ (blk_lt RB)).trans RB)
        replace TH := keep K ((heap_old _ _ (blk_lt TH)).trans TH)
        replace H := bw_trans (bw_alloc H _) K
        clear t0 t1 t2 t3 t4 t5 l0 l1 K hs3
        have zf := blk_lt FB
        have zl3 := blk_lt LB
        obtain ⟨u0, u1⟩ := blk_2 FB
        go_wp2_with fail
        clear u0 u1 FB zf zl zl3 zt
        rw [rounds_succ]
        obtain ⟨l0, l1⟩ := blk_2 LB
        have zl := blk_lt LB
        have zr := blk_lt RB
        obtain ⟨q0, q1, qf0, qf1⟩ := blkF RB
        have R2 := setF2 RB (u0 := .int .i64 f0.1) (u1 := .int .i64 f0.2)
        obtain ⟨r0, r1⟩ := blk_2 R2
        have HB : Hid _ := H
        have e1 : Hid (mnA f0 f1 f2 f3 = f0) := by change _ = _; unfold mnA; rw [m1, m2, m3]
        clear R2 RB LB TH H m1 m2 m3
        go_wp2_with fail
        exact bodyPost_ret (v := .agg #[.int .i64 f0.1, .int .i64 f0.2]) (by simp [results, Tryz.results70, go_sem, r0, r1]) rfl ⟨by rw [e1.out], by repeat (first | with_reducible exact HB.out | with_reducible refine bw_set ?_ (by dsimp only; omega) _)⟩
end Go.Proofs.YtmdjhoknlplecaaGreatDoor
namespace Go.Proofs.YtmdjhoknlplecaaGreatDoor
open Go.RowKit Go.Sort

def frAt (fs : List (Int × Int)) (j : Nat) : Int × Int := fs[j]?.getD (0, 1)
theorem fold_take (fs : List (Int × Int)) (f0 : Int × Int) (k : Nat) (hk : k < fs.length) : (fs.take (k + 1)).foldl mn f0 = mn ((fs.take k).foldl mn f0) (frAt fs k) := by
  rw [List.take_add_one, List.foldl_append, List.getElem?_eq_getElem hk]; simp [frAt, hk]
theorem fold_ok (fs : List (Int × Int)) (f0 : Int × Int) (h0 : OkF f0) (hfs : ∀ f ∈ fs, OkF f) : OkF (fs.foldl mn f0) := by
  induction fs generalizing f0 with
  | nil => exact h0
  | cons f fs ih => exact ih _ (mn_ok h0 (hfs f (by simp))) (fun g hg => hfs g (by simp [hg]))
set_option maxRecDepth 100000 in
set_option maxHeartbeats 2000000 in
theorem leastRow_ok (f0 : Int × Int) (fs : List (Int × Int)) (b off len cap : Nat) (ad : Addr) (w : World) (h0 : Sent ad w) (o0 : OkF f0) (hfs : ∀ f ∈ fs, OkF f) (hl : Hid (fs.length = len)) (hlen : len ≤ 1000) (hb : b < w.heap.size)
    (hc : ∀ j, j < len → w.cell? ⟨b, off + j * 2, none⟩ = some (.int .i64 (frAt fs j).1) ∧ w.cell? ⟨b, off + j * 2 + 1, none⟩ = some (.int .i64 (frAt fs j).2)) :
    Calls Tryz.prog 70 #[.agg #[.int .i64 f0.1, .int .i64 f0.2], .slice (some ⟨b, off, none⟩) len cap] w fun e w' => e = .returned (.agg #[.int .i64 (fs.foldl mn f0).1, .int .i64 (fs.foldl mn f0).2]) ∧ Below w.heap.size w w' := by
  obtain ⟨W, hW, H, _, RB, LB⟩ := boxes3 w (.cells #[.int .i64 f0.1, .int .i64 f0.2] 47) (.cells #[.int .i64 0, .int .i64 0] 47) (.cells #[.int .i64 f0.1, .int .i64 f0.2] 47)
  have HT : Hid (∀ k, k < len → (fs.take (k + 1)).foldl mn f0 = mn ((fs.take k).foldl mn f0) (frAt fs k)) := fun k hk => fold_take fs f0 k (by rw [hl.out]; exact hk)
  have HOK : Hid (∀ k, OkF ((fs.take k).foldl mn f0)) := fun k => fold_ok _ _ o0 (fun f hf => hfs f (List.mem_of_mem_take hf))
  have HO2 : Hid (∀ k, k < len → OkF (frAt fs k)) := fun k hk => hfs _ (by unfold frAt; rw [List.getElem?_eq_getElem (by rw [hl.out]; exact hk), Option.getD_some]; exact List.getElem_mem _)
  go_enter Tryz.func70, Tryz.ntmps70
  go_upto_region 3 with fail
  rw [← hW]
  clear hW
  go_loopw [11] (fun i wr => ∃ (k : Nat) (m : Int × Int), k ≤ len ∧ i = .int .i64 k ∧ m = (fs.take k).foldl mn f0 ∧ wr.heap[w.heap.size + 2]? = some (.cells #[.int .i64 m.1, .int .i64 m.2] 47 (0, 0)) ∧ wr.heap[w.heap.size + 1]? = some (.cells #[.int .i64 0, .int .i64 0] 47 (0, 0)) ∧ Below w.heap.size w wr) (fun i _ => len - (intOf i).toNat)
  case atStart => exact ⟨0, f0, Nat.zero_le _, rfl, rfl, LB, RB, H⟩
  case round =>
    obtain ⟨k, m, hk, rfl, hm, LB, RB, H⟩ := hrel
    have hs1 := h0.below H
    have zl := blk_lt LB
    by_cases hlt : k < len
    case neg =>
      obtain rfl : len = k := by omega
      rw [List.take_of_length_le (by rw [hl.out]; exact Nat.le_refl _)] at hm
      obtain ⟨l0, l1⟩ := blk_2 LB
      obtain ⟨q0, q1, qf0, qf1⟩ := blkF RB
      have RB2 := setF2 RB (u0 := .int .i64 m.1) (u1 := .int .i64 m.2)
      obtain ⟨v0, v1⟩ := blk_2 RB2
      have HM : Hid (m = fs.foldl mn f0) := hm
      clear hm
      go_wp2_with fail
      refine bodyPost_ret (v := .agg #[.int .i64 m.1, .int .i64 m.2]) (by simp [results, Tryz.results70, go_sem, v0, v1]) rfl ⟨by rw [HM.out], ?_⟩
      exact bw_set (bw_set H (p := ⟨w.heap.size + 1, 0, none⟩) (by dsimp only; omega) _) (p := ⟨w.heap.size + 1, 1, none⟩) (by dsimp only; omega) _
    case pos =>
      have om : OkF m := by rw [hm]; exact HOK.out k
      have og := HO2.out k hlt
      have hst := HT.out k hlt
      rw [← hm] at hst
      clear hm
      obtain ⟨c0, c1⟩ := hc k hlt
      have d0 := (H.cell (p := ⟨b, off + k * 2, none⟩) hb).trans c0
      have d1 := (H.cell (p := ⟨b, off + k * 2 + 1, none⟩) hb).trans c1
      obtain ⟨l0, l1⟩ := blk_2 LB
      have i0 : (0 : Int) ≤ (k : Int) := Int.natCast_nonneg _
      have i1 : (k : Int) < (len : Int) := by omega
      have k9 : (k : Int) ≤ 1000 := by omega
      generalize frAt fs k = g at *
      have HS : Hid ((fs.take (k + 1)).foldl mn f0 = mn m g) := hst
      clear hst c0 c1
      by_cases c : g.1 * m.2 < m.1 * g.2
      · have m1 : mn m g = g := if_pos c
        have e1 := cmpI_lt _ _ c
        clear c
        go_wp2_with fail
        refine (fracCmp_both g.1 g.2 m.1 m.2 ad _ (hs1.below (bw_alloc (bw_refl _) _)) og om).mono ?_
        rw [e1]
        rintro e w1 ⟨rfl, K⟩
        have FB := keep K (heap_new _ _)
        replace LB := keep K ((heap_old _ _ (blk_lt LB)).trans LB)
        replace RB := keep K ((heap_old _ _ (blk_lt RB)).trans RB)
        replace H := bw_trans (bw_alloc H _) K
        clear l0 l1 K hs1 d0 d1
        have zf := blk_lt FB
        obtain ⟨u0, u1⟩ := blk_2 FB
        obtain ⟨q0, q1, qf0, qf1⟩ := blkF LB
        go_wp2_with fail
        have LB2 := setF2 LB (u0 := .int .i64 g.1) (u1 := .int .i64 g.2)
        have RB2 := setO2 RB (b := w.heap.size + 2) (i := 0) (j := 1) (v := .int .i64 g.1) (u := .int .i64 g.2) (by omega)
        have H2 := bw_set (bw_set H (p := ⟨w.heap.size + 2, 0, none⟩) (by dsimp only; omega) (.int .i64 g.1)) (p := ⟨w.heap.size + 2, 1, none⟩) (by dsimp only; omega) (.int .i64 g.2)
        go_roundw
        case rel => exact ⟨k + 1, g, by omega, by simp, by rw [HS.out, m1], LB2, RB2, H2⟩
        case measure => simp [intOf]; omega
      · have m1 : mn m g = m := if_neg c
        have e1 := cmpI_ge _ _ c
        obtain ⟨x, hx⟩ : ∃ x, cmpI (g.1 * m.2) (m.1 * g.2) = x := ⟨_, rfl⟩
        rw [hx] at e1
        clear c
        have hcall := fracCmp_both g.1 g.2 m.1 m.2 ad (wr.alloc (.cells #[.int .i64 g.1, .int .i64 g.2] 47)) (hs1.below (bw_alloc (bw_refl _) _)) og om
        rw [hx] at hcall
        clear hx
        go_wp2_with fail
        refine hcall.mono ?_
        rintro e w1 ⟨rfl, K⟩
        replace LB := keep K ((heap_old _ _ (blk_lt LB)).trans LB)
        replace RB := keep K ((heap_old _ _ (blk_lt RB)).trans RB)
        replace H := bw_trans (bw_alloc H _) K
        clear l0 l1 K hs1 d0 d1
        go_wp2_with fail
        go_roundw
        case rel => exact ⟨k + 1, m, by omega, by simp, by rw [HS.out, m1], LB, RB, H⟩
        case measure => simp [intOf]; omega
end Go.Proofs.YtmdjhoknlplecaaGreatDoor
namespace Go.Proofs.YtmdjhoknlplecaaGreatDoor
open Go.RowKit Go.Sort

theorem frCells_at (fs : List (Int × Int)) (j : Nat) (hj : j < fs.length) : (frCells fs)[j * 2]? = some (.int .i64 (frAt fs j).1) ∧ (frCells fs)[j * 2 + 1]? = some (.int .i64 (frAt fs j).2) := by
  induction fs generalizing j with
  | nil => simp at hj
  | cons f fs ih =>
    have e : frCells (f :: fs) = .int .i64 f.1 :: .int .i64 f.2 :: frCells fs := by simp [frCells]
    cases j with
    | zero => rw [e]; exact ⟨rfl, rfl⟩
    | succ j =>
      have := ih j (by simpa using hj)
      have e1 : (j + 1) * 2 = j * 2 + 1 + 1 := by omega
      rw [e, e1]
      simpa [frAt] using this
set_option maxRecDepth 100000 in
set_option maxHeartbeats 2000000 in
theorem boardFar_any (b : Nat) (rs : List RingT) (p : P2) (ad : Addr) (w : World) (h0 : Sent ad w) (hR : RingN w.heap.size w (some ⟨b, 0, none⟩) rs) (hes : (edgR rs).length ≤ 1000) (he1 : 2 ≤ (edgR rs).length) (hok : ∀ s ∈ edgR rs, OkF (farS p s)) :
    Calls Tryz.prog 64 #[.pointer (some ⟨b, 0, none⟩), .agg #[.int .i64 p.1, .int .i64 p.2]] w fun e W' => e = .returned (.agg #[.int .i64 (leastL ((edgR rs).map (farS p))).1, .int .i64 (leastL ((edgR rs).map (farS p))).2]) ∧ Below w.heap.size w W' := by
  obtain ⟨W, hW, BW, T, RB⟩ := boxes2 w (.cells #[.int .i64 p.1, .int .i64 p.2] 35) (.cells #[.int .i64 0, .int .i64 0] 47)
  obtain ⟨M, hM⟩ : ∃ M, (edgR rs).length = M := ⟨_, rfl⟩
  have hcall := callsIn_wide.1 (fars_in 12 (Nat.le_refl _) b rs p ad W (h0.below BW) (by have := hR.keep BW; exact RingL.ringN (Nat.le_refl _) (RingL.grow BW.size this.ringL)) hes)
  obtain ⟨fs, hfs⟩ : ∃ fs, (edgR rs).map (farS p) = fs := ⟨_, rfl⟩
  have hfl : fs.length = M := by rw [← hfs, List.length_map, hM]
  have hfo : ∀ f ∈ fs, OkF f := by intro f hf; rw [← hfs] at hf; obtain ⟨s, hs, rfl⟩ := List.mem_map.1 hf; exact hok s hs
  rw [hfs, hM] at hcall
  rw [hM] at hes he1
  rw [hfs]
  obtain ⟨r, hr⟩ : ∃ r, leastL fs = r := ⟨_, rfl⟩
  rw [hr]
  have Hr : Hid (leastL fs = r) := hr
  clear hfs hok hr
  obtain ⟨t0, t1⟩ := blk_2 T
  go_enter Tryz.func64, Tryz.ntmps64
  go_upto_region 1 with fail
  rw [← hW]
  clear hW
  go_wp2_with fail
  refine hcall.mono ?_
  rintro e w1 ⟨v, rfl, ho, J⟩
  have ho' := ho
  rcases ho.2 with ⟨_, hz⟩ | ⟨g, c, cur, rfl, hgb, hg, hMc, hcm, _⟩
  · omega
  have zg := (Array.getElem?_eq_some_iff.1 hg).1
  have hc := ho'.cells (g := g) rfl
  have add : ∀ k : Nat, (⟨g, 0, none⟩ : Addr).add k = ⟨g, k, none⟩ := fun k => by unfold Addr.add; split <;> simp_all
  have hcell : ∀ j, j < M → w1.cell? ⟨g, j * 2, none⟩ = some (.int .i64 (frAt fs j).1) ∧ w1.cell? ⟨g, j * 2 + 1, none⟩ = some (.int .i64 (frAt fs j).2) := fun j hj => by
    obtain ⟨a0, a1⟩ := frCells_at fs j (by omega)
    have d0 := hc _ _ a0
    have d1 := hc _ _ a1
    rw [add] at d0 d1
    exact ⟨d0, d1⟩
  obtain ⟨f, fs', rfl⟩ : ∃ f fs', fs = f :: fs' := by
    cases fs with
    | nil => simp at hfl; omega
    | cons f fs' => exact ⟨f, fs', rfl⟩
  obtain ⟨d0, d1⟩ := hcell 0 (by omega)
  simp only [Nat.zero_mul, Nat.zero_add, frAt, List.getElem?_cons_zero, Option.getD_some] at d0 d1
  have i1 : (0 : Int) < (M : Int) := by omega
  have i4 : 0 < M := by omega
  have hgne : g ≠ w.heap.size + 1 := by have := blk_lt RB; omega
  have i2 : (1 : Int) ≤ (M : Int) := by omega
  have i3 : (M : Int) ≤ (c : Int) := by omega
  have zW := BW.size
  have RB1 := keep J RB
  have zR := blk_lt RB
  have hl' : Hid (fs'.length = M - 1) := by change _ = _; simp at hfl; omega
  have hcl : ∀ j, j < M - 1 → w1.cell? ⟨g, 2 + j * 2, none⟩ = some (.int .i64 (frAt fs' j).1) ∧ w1.cell? ⟨g, 2 + j * 2 + 1, none⟩ = some (.int .i64 (frAt fs' j).2) := fun j hj => by
    have := hcell (j + 1) (by omega)
    rw [show (j + 1) * 2 = 2 + j * 2 by omega] at this
    simpa [frAt] using this
  have hs1 := (h0.below BW).below J
  have B2 : Below w1.heap.size w1 w1.drew := bw_drew (bw_refl _)
  have hL := fun cap => leastRow_ok f fs' g 2 (M - 1) cap ad w1.drew (hs1.below B2) (hfo f (by simp)) (fun x hx => hfo x (by simp [hx])) hl' (by omega) zg hcl
  have e1 : ((M : Int) - 1).toNat = M - 1 := by omega
  have c1' : (c = 1) = False := by simp; omega
  have RBd := RB1
  obtain ⟨q0, q1, qf0, qf1⟩ := blkF RB1
  have hr : fs'.foldl mn f = r := Hr.out
  rw [hr] at hL
  clear hcell hc ho ho' hr
  go_wp2_with fail
  go_region_held3 (fun w' => w'.cell? ⟨g, 0, none⟩ = some (.int .i64 f.1) ∧ w'.cell? ⟨g, 1, none⟩ = some (.int .i64 f.2))
    (first | go_keep | exact ⟨(J2.cell (p := ⟨g, 0, none⟩) zg).trans d0, (J2.cell (p := ⟨g, 1, none⟩) zg).trans d1⟩ | exact ⟨cellS2 ((J2.cell (p := ⟨g, 0, none⟩) zg).trans d0) hgne, cellS2 ((J2.cell (p := ⟨g, 1, none⟩) zg).trans d1) hgne⟩)
    ((go_at_call 70; refine (hL _).mono ?_; rintro e w2 ⟨rfl, J2⟩; have RB2 : w2.heap[w.heap.size + 1]? = some (.cells #[.int .i64 0, .int .i64 0] 47 (0, 0)) := keep J2 RBd; obtain ⟨x0, x1, xf0, xf1⟩ := blkF RB2))
  have RB3 := setF2 RB2 (u0 := .int .i64 r.1) (u1 := .int .i64 r.2)
  obtain ⟨v0, v1⟩ := blk_2 RB3
  go_wp2_with fail
  exact bodyPost_ret (v := .agg #[.int .i64 r.1, .int .i64 r.2]) (by simp [results, Tryz.results64, go_sem, v0, v1]) rfl ⟨rfl, bw_set (bw_set (bw_trans (bw_trans (bw_trans BW J) B2) J2) (p := ⟨w.heap.size + 1, 0, none⟩) (by dsimp only; omega) _) (p := ⟨w.heap.size + 1, 1, none⟩) (by dsimp only; omega) _⟩
end Go.Proofs.YtmdjhoknlplecaaGreatDoor
namespace Go.Proofs.YtmdjhoknlplecaaGreatDoor
open Go.RowKit Go.Sort

theorem blkF3 {w : World} {b : Nat} {x y z : Value} {t : TypeId} (h : w.heap[b]? = some (.cells #[x, y, z] t (0, 0))) :
    w.cell? ⟨b, 0, none⟩ = some x ∧ w.cell? ⟨b, 1, none⟩ = some y ∧ w.cell? ⟨b, 2, none⟩ = some z ∧ w.frozen? ⟨b, 0, none⟩ = false ∧ w.frozen? ⟨b, 1, none⟩ = false ∧ w.frozen? ⟨b, 2, none⟩ = false := by
  refine ⟨?_, ?_, ?_, ?_, ?_, ?_⟩ <;> simp [World.cell?, World.frozen?, h]
theorem reg_3 {w : World} {b : Nat} {x0 x1 x2 : Value} {t : TypeId} (h : w.heap[b]? = some (.cells #[x0, x1, x2] t (0, 0))) :
    (∀ d os, (grow (redrawn w d) os).cell? ⟨b, 0, none⟩ = some x0) ∧ (∀ d os, (grow (redrawn w d) os).cell? ⟨b, 1, none⟩ = some x1) ∧ (∀ d os, (grow (redrawn w d) os).cell? ⟨b, 2, none⟩ = some x2) := by
  obtain ⟨a0, a1, a2⟩ := blk_3 h
  exact ⟨cell_regrown a0, cell_regrown a1, cell_regrown a2⟩
theorem setF3 {w : World} {b : Nat} {x0 x1 x2 u0 u1 u2 : Value} {t : TypeId} (h : w.heap[b]? = some (.cells #[x0, x1, x2] t (0, 0))) : (((w.setCell ⟨b, 0, none⟩ u0).setCell ⟨b, 1, none⟩ u1).setCell ⟨b, 2, none⟩ u2).heap[b]? = some (.cells #[u0, u1, u2] t (0, 0)) := by
  simp [World.setCell, Array.getElem?_modify, h]
theorem bw_set3 {n : Nat} {W w : World} (h : Below n W w) {b : Nat} (hb : n ≤ b) (u0 u1 u2 : Value) : Below n W (((w.setCell ⟨b, 0, none⟩ u0).setCell ⟨b, 1, none⟩ u1).setCell ⟨b, 2, none⟩ u2) :=
  ((h.setCell (p := ⟨b, 0, none⟩) hb u0).setCell (p := ⟨b, 1, none⟩) hb u1).setCell (p := ⟨b, 2, none⟩) hb u2
theorem setRow {W : World} {g : Nat} {cur : Array Value} {e : TypeId} (h : W.heap[g]? = some (.cells cur e (0, 0))) (i : Nat) (v : Value) : (W.setCell ⟨g, i, none⟩ v).heap[g]? = some (.cells (cur.setIfInBounds i v) e (0, 0)) := by
  simp [World.setCell, Array.getElem?_modify, h]
theorem ringL_set {n₀ B i : Nat} {W : World} {cs : Array Value} {t : TypeId} (hT : W.heap[B]? = some (.cells cs t (0, 0))) (hsz : cs.size = 3) (hB : n₀ ≤ B) (v : Value) : ∀ {p : Option Addr} {xs : List RingT}, RingL n₀ W p xs → RingL n₀ (W.setCell ⟨B, i, none⟩ v) p xs
  | _, [], hl => hl
  | _, _ :: _, ⟨b, q, t', hp, hL, hl, hP, hr⟩ => by
    refine ⟨b, q, t', hp, hL.other' (fun e => ?_) v, hl, ?_, ringL_set hT hsz hB v hr⟩
    · subst e
      have h2 : W.heap[b]? = _ := hL
      rw [hT] at h2; cases h2; simp at hsz
    · refine ⟨hP.1, hP.2.imp id ?_⟩
      rintro ⟨g, off, e, hg, hc⟩
      refine ⟨g, off, e, hg, fun j hj => ?_⟩
      have k : ∀ o, (W.setCell ⟨B, i, none⟩ v).cell? ⟨g, o, none⟩ = W.cell? ⟨g, o, none⟩ := fun o => World.cell?_of_block (Below.heap_setCell W ⟨B, i, none⟩ v g (fun e => by have e' : g = B := e; omega))
      rw [k, k]; exact hc j hj
/-- What toolOn hands back. -/
def ToolAns (n₀ : Nat) (ok : Bool) (r : Int) (a : Option Addr) (la ca : Nat) (o : List P2) (hs : List (List P2)) (e : Ending) (W' : World) : Prop :=
  ∃ (q : Option Addr) (n d : Int), e = .returned (.tuple #[.agg #[.pointer q, .int .i64 n, .int .i64 d], .bool ok]) ∧
    (ok = true → n = r ∧ d = 1 ∧ ∃ b xs, q = some ⟨b, 0, none⟩ ∧ RingL n₀ W' (some ⟨b, 0, none⟩) (⟨a, la, ca, o⟩ :: xs) ∧ xs.map RingT.pts = hs)
theorem toolOk_any (r : Int) (w : World) : Calls Tryz.prog 78 #[.int .i64 r] w fun e W' => e = .returned (.bool (rV r)) ∧ Below w.heap.size w W' := by
  have hw := bw_refl w
  by_cases c1 : r < 1
  · have hv : rV r = false := by rw [rV, decide_eq_false_iff_not]; omega
    rw [hv]
    go_enter Tryz.func78, Tryz.ntmps78
    go_wp2_with fail
    go_ret
    exact ⟨rfl, hw⟩
  · by_cases c2 : 9 < r
    · have hv : rV r = false := by rw [rV, decide_eq_false_iff_not]; omega
      rw [hv]
      go_enter Tryz.func78, Tryz.ntmps78
      go_wp2_with fail
      go_ret
      exact ⟨by first | rfl | (simp; omega), hw⟩
    · have hv : rV r = true := by rw [rV_iff]; omega
      rw [hv]
      go_enter Tryz.func78, Tryz.ntmps78
      go_wp2_with fail
      go_ret
      exact ⟨by first | rfl | (simp; omega), hw⟩
set_option maxRecDepth 100000 in
set_option maxHeartbeats 1000000 in
/-- A tool on a plate. -/
theorem toolOn_any (a ah : Option Addr) (la ca nh ch : Nat) (o : List P2) (hs : List (List P2)) (r : Int) (ad : Addr) (w : World) (h0 : Sent ad w) (h : Plt w a la ah nh o hs) :
    Calls Tryz.prog 40 #[.agg #[.slice a la ca, .slice ah nh ch], .int .i64 r] w fun e W' => ToolAns w.heap.size (rV r && plV o hs) r a la ca o hs e W' ∧ Below w.heap.size w W' := by
  obtain ⟨W, hW, BW, TP, RB⟩ := boxes2 w (.cells #[.slice a la ca, .slice ah nh ch] 33) (.cells #[.pointer none, .int .i64 0, .int .i64 0] 74)
  cases hr : rV r
  · have hK := fun V => toolOk_any r V
    rw [hr] at hK
    clear hr
    obtain ⟨t0, t1⟩ := blk_2 TP
    go_enter Tryz.func40, Tryz.ntmps40
    go_upto_region 1 with fail
    rw [← hW]
    clear hW
    go_wp2_with fail
    refine (hK _).mono ?_
    rintro e w1 ⟨rfl, J⟩
    have zB := BW.size
    have RB1 := keep J RB
    obtain ⟨q0, q1, q2, f0, f1, f2⟩ := blkF3 RB1
    have RB2 := setF3 RB1 (u0 := .pointer none) (u1 := .int .i64 0) (u2 := .int .i64 0)
    obtain ⟨v0, v1, v2, _, _, _⟩ := blkF3 RB2
    go_wp2_with fail
    exact bodyPost_ret (v := .tuple #[.agg #[.pointer none, .int .i64 0, .int .i64 0], .bool false]) (by simp [results, Tryz.results40, go_sem, v0, v1, v2]) rfl ⟨⟨none, 0, 0, rfl, fun h => by cases h⟩, bw_set3 (bw_trans BW J) (by omega) _ _ _⟩
  · have hn := (rV_iff r).1 hr
    obtain ⟨c1, c2⟩ := hn
    have hK := fun V => toolOk_any r V
    rw [hr] at hK
    cases hv : plV o hs
    · obtain ⟨t0, t1⟩ := blk_2 TP
      go_enter Tryz.func40, Tryz.ntmps40
      go_upto_region 1 with fail
      rw [← hW]
      clear hW
      go_wp2_with fail
      refine (hK _).mono ?_
      rintro e w0 ⟨rfl, J0⟩
      replace TP := keep J0 TP
      replace RB := keep J0 RB
      replace BW := bw_trans BW J0
      clear hK J0 t0 t1
      obtain ⟨t0, t1⟩ := blk_2 TP
      have zP := blk_lt TP
      have zR := blk_lt RB
      have zB := BW.size
      go_wp2_with fail
      refine (board_any0 a ah la ca nh ch o hs _ _ zB (h.base BW)).mono ?_
      rw [hv]
      rintro e w1 ⟨q, rfl, J, _⟩
      have RB1 := keep J RB
      obtain ⟨q0, q1, q2, f0, f1, f2⟩ := blkF3 RB1
      have RB2 := setF3 RB1 (u0 := .pointer none) (u1 := .int .i64 0) (u2 := .int .i64 0)
      obtain ⟨v0, v1, v2, _, _, _⟩ := blkF3 RB2
      go_wp2_with fail
      exact bodyPost_ret (v := .tuple #[.agg #[.pointer none, .int .i64 0, .int .i64 0], .bool false]) (by simp [results, Tryz.results40, go_sem, v0, v1, v2]) rfl ⟨⟨none, 0, 0, rfl, fun h => by cases h⟩, bw_set3 (bw_trans BW J) (by omega) _ _ _⟩
    · obtain ⟨t0, t1⟩ := blk_2 TP
      go_enter Tryz.func40, Tryz.ntmps40
      go_upto_region 1 with fail
      rw [← hW]
      clear hW
      go_wp2_with fail
      refine (hK _).mono ?_
      rintro e w0 ⟨rfl, J0⟩
      replace TP := keep J0 TP
      replace RB := keep J0 RB
      replace BW := bw_trans BW J0
      clear hK J0 t0 t1
      obtain ⟨t0, t1⟩ := blk_2 TP
      have zP := blk_lt TP
      have zR := blk_lt RB
      have zB := BW.size
      go_wp2_with fail
      refine (board_any0 a ah la ca nh ch o hs _ _ zB (h.base BW)).mono ?_
      rintro e w1 ⟨q, rfl, J, hR⟩
      obtain ⟨b, xs, rfl, hR, hx⟩ := hR hv
      rw [hv]
      have hG := grid_one r (by omega) (by omega) ad w1 (h0.below (bw_trans BW J))
      go_wp2_with fail
      have zJ1 := J.size
      refine hG.mono ?_
      rintro e w2 ⟨rfl, J2⟩
      have RB1 := keep (bw_trans J J2) RB
      obtain ⟨q0, q1, q2, f0, f1, f2⟩ := blkF3 RB1
      have RB2 := setF3 RB1 (u0 := .pointer (some ⟨b, 0, none⟩)) (u1 := .int .i64 r) (u2 := .int .i64 1)
      obtain ⟨v0, v1, v2, _, _, _⟩ := blkF3 RB2
      go_wp2_with fail
      have hRx : RingL w.heap.size _ (some ⟨b, 0, none⟩) (⟨a, la, ca, o⟩ :: xs) := ringL_set (i := 2) (setRow (setRow RB1 0 (.pointer (some ⟨b, 0, none⟩))) 1 (.int .i64 r)) (by simp) (by omega) (.int .i64 1) (ringL_set (i := 1) (setRow RB1 0 (.pointer (some ⟨b, 0, none⟩))) (by simp) (by omega) (.int .i64 r) (ringL_set (i := 0) RB1 rfl (by omega) (.pointer (some ⟨b, 0, none⟩)) (hR.below J2 (by omega))))
      refine bodyPost_ret (v := .tuple #[.agg #[.pointer (some ⟨b, 0, none⟩), .int .i64 r, .int .i64 1], .bool true]) (by simp [results, Tryz.results40, go_sem, v0, v1, v2]) rfl ⟨⟨_, r, 1, rfl, fun _ => ⟨rfl, rfl, b, xs, rfl, hRx, hx⟩⟩, bw_set3 (bw_trans (bw_trans BW J) J2) (by omega) _ _ _⟩
theorem boardHas_any (b : Nat) (o : RingT) (hs : List RingT) (p : P2) (w : World) (hR : RingL w.heap.size w (some ⟨b, 0, none⟩) (o :: hs)) (hok : ((o :: hs).all fun x => okV x.pts) = true) (hp : ptB p.1 p.2 = true) :
    Calls Tryz.prog 80 #[.pointer (some ⟨b, 0, none⟩), .agg #[.int .i64 p.1, .int .i64 p.2]] w fun e W' => e = .returned (.bool (decide (plI o.pts (hs.map RingT.pts) p = 1))) ∧ Below w.heap.size w W' := by
  obtain ⟨W, hW, BW, T⟩ : ∃ W, W = w.alloc (.cells #[.int .i64 p.1, .int .i64 p.2] 35) ∧ Below w.heap.size w W ∧ W.heap[w.heap.size]? = some (.cells #[.int .i64 p.1, .int .i64 p.2] 35) := ⟨_, rfl, (by repeat (first | exact bw_refl _ | assumption | apply bw_drewN | apply bw_drew | apply bw_alloc | refine bw_set ?_ (by simp) _)), heap_new _ _⟩
  have hcall := boardIn_any b o hs p W ((hR.below BW (Nat.le_refl _)).grow BW.size) hok hp
  obtain ⟨t0, t1⟩ := blk_2 T
  generalize plI o.pts (hs.map RingT.pts) p = u at *
  go_enter Tryz.func80, Tryz.ntmps80
  go_upto_region 1 with fail
  rw [← hW]
  clear hW
  go_wp2_with fail
  refine hcall.mono ?_
  rintro e w1 ⟨rfl, J⟩
  go_wp2_with fail
  go_ret
  exact ⟨by first | rfl | simp, bw_trans BW J⟩
theorem spares_any (q : Option Addr) (n d : Int) (f : Int × Int) (ad : Addr) (w : World) (h0 : Sent ad w) :
    Calls Tryz.prog 81 #[.agg #[.pointer q, .int .i64 n, .int .i64 d], .agg #[.int .i64 f.1, .int .i64 f.2]] w fun e W' => e = .returned (.bool (decide (cmpV n d f.1 f.2 ≤ 0))) ∧ Below w.heap.size w W' := by
  obtain ⟨W, hW, BW, T, F⟩ := boxes2 w (.cells #[.pointer q, .int .i64 n, .int .i64 d] 74) (.cells #[.int .i64 f.1, .int .i64 f.2] 47)
  have hcall := fracCmp_any n d f.1 f.2 ad W (h0.below BW)
  obtain ⟨t0, t1, t2⟩ := blk_3 T
  obtain ⟨f0, f1⟩ := blk_2 F
  generalize cmpV n d f.1 f.2 = u at *
  go_enter Tryz.func81, Tryz.ntmps81
  go_upto_region 1 with fail
  rw [← hW]
  clear hW
  go_wp2_with fail
  refine hcall.mono ?_
  rintro e w1 ⟨rfl, J⟩
  go_wp2_with fail
  go_ret
  exact ⟨by first | rfl | simp, bw_trans BW J⟩
set_option maxRecDepth 100000 in
set_option maxHeartbeats 1000000 in
/-- Where it is known to be a tool on a plate, it fits just if it does. -/
theorem fits_any (b : Nat) (o : RingT) (xs : List RingT) (hs : List (List P2)) (r : Int) (p : P2) (ad : Addr) (w : World) (h0 : Sent ad w) (hR : RingL w.heap.size w (some ⟨b, 0, none⟩) (o :: xs)) (hx : xs.map RingT.pts = hs) (hv : plV o.pts hs = true) (hr : rV r = true) (hp : ptB p.1 p.2 = true) :
    Calls Tryz.prog 42 #[.agg #[.pointer (some ⟨b, 0, none⟩), .int .i64 r, .int .i64 1], .agg #[.int .i64 p.1, .int .i64 p.2]] w fun e W' => e = .returned (.bool (fitI o.pts hs r p)) ∧ Below w.heap.size w W' := by
  obtain ⟨W, hW, BW, T, Z⟩ := boxes2 w (.cells #[.pointer (some ⟨b, 0, none⟩), .int .i64 r, .int .i64 1] 74) (.cells #[.int .i64 p.1, .int .i64 p.2] 35)
  have L := (plV_iff _ _).1 hv
  have hall : ((o :: xs).all fun x => okV x.pts) = true := by
    rw [List.all_eq_true]
    intro x hx'
    rcases List.mem_cons.1 hx' with e | e
    · subst e; exact L.out
    · exact L.ok _ (by rw [← hx]; exact List.mem_map.2 ⟨x, e, rfl⟩)
  have n3 := plE_ne hv
  have n24 := plE_len o.pts hs
  have hfo : ∀ s ∈ plE o.pts hs, OkF (farS p s) := fun s hs => farS_ok (plE_ok hv hs) hp
  have hE : edgR (o :: xs) = plE o.pts hs := by rw [edgR_eq _ _ hs hx, plE_eq hv]
  have hRW := (hR.below BW (Nat.le_refl _)).grow BW.size
  have HH : Hid (∀ w', Below W.heap.size W w' → Calls Tryz.prog 80 #[.pointer (some ⟨b, 0, none⟩), .agg #[.int .i64 p.1, .int .i64 p.2]] w' fun e W' => e = .returned (.bool (decide (plI o.pts hs p = 1))) ∧ Below w'.heap.size w' W') := fun w' J => by
    have := boardHas_any b o xs p w' ((hRW.below J (Nat.le_refl _)).grow J.size) hall hp
    rwa [hx] at this
  have HF : Hid (∀ w', Below W.heap.size W w' → Calls Tryz.prog 64 #[.pointer (some ⟨b, 0, none⟩), .agg #[.int .i64 p.1, .int .i64 p.2]] w' fun e W' => e = .returned (.agg #[.int .i64 (plFI o.pts hs p).1, .int .i64 (plFI o.pts hs p).2]) ∧ Below w'.heap.size w' W') := fun w' J => by
    have := boardFar_any b (o :: xs) p ad w' (h0.below (bw_trans BW J)) (RingL.ringN (Nat.le_refl _) ((hRW.below J (Nat.le_refl _)).grow J.size)) (by rw [hE]; omega) (by rw [hE]; omega) (by rw [hE]; exact hfo)
    rwa [hE] at this
  have HS : Hid (∀ w', Below W.heap.size W w' → Calls Tryz.prog 81 #[.agg #[.pointer (some ⟨b, 0, none⟩), .int .i64 r, .int .i64 1], .agg #[.int .i64 (plFI o.pts hs p).1, .int .i64 (plFI o.pts hs p).2]] w' fun e W' => e = .returned (.bool (spB r (plFI o.pts hs p))) ∧ Below w'.heap.size w' W') := fun w' J => by
    have := spares_any (some ⟨b, 0, none⟩) r 1 (plFI o.pts hs p) ad w' (h0.below (bw_trans BW J))
    rwa [sp_cmp hr (plFI_ok hv hp)] at this
  have HV : Hid (fitI o.pts hs r p = (decide (plI o.pts hs p = 1) && spB r (plFI o.pts hs p))) := rfl
  rw [HV.out]
  clear hfo hE hRW hall hR hv hx n3 n24 L HV
  generalize plFI o.pts hs p = f at *
  generalize decide (plI o.pts hs p = 1) = bi at *
  generalize spB r f = bs at *
  obtain ⟨t0, t1, t2⟩ := reg_3 T
  obtain ⟨z0, z1⟩ := reg_2 Z
  have HH2 : Hid (∀ d os, Calls Tryz.prog 80 #[.pointer (some ⟨b, 0, none⟩), .agg #[.int .i64 p.1, .int .i64 p.2]] (grow (redrawn W d) os) fun e W' => e = .returned (.bool bi) ∧ Below (grow (redrawn W d) os).heap.size (grow (redrawn W d) os) W') := fun d os => HH.out _ (below_regrown W d os)
  have HF2 : Hid (∀ d os, Calls Tryz.prog 64 #[.pointer (some ⟨b, 0, none⟩), .agg #[.int .i64 p.1, .int .i64 p.2]] (grow (redrawn W d) os) fun e W' => e = .returned (.agg #[.int .i64 f.1, .int .i64 f.2]) ∧ Below (grow (redrawn W d) os).heap.size (grow (redrawn W d) os) W') := fun d os => HF.out _ (below_regrown W d os)
  have HS2 : Hid (∀ d os, Calls Tryz.prog 81 #[.agg #[.pointer (some ⟨b, 0, none⟩), .int .i64 r, .int .i64 1], .agg #[.int .i64 f.1, .int .i64 f.2]] (grow (redrawn W d) os) fun e W' => e = .returned (.bool bs) ∧ Below (grow (redrawn W d) os).heap.size (grow (redrawn W d) os) W') := fun d os => HS.out _ (below_regrown W d os)
  clear HH HF HS
  go_enter Tryz.func42, Tryz.ntmps42
  go_upto_region 1 with fail
  rw [← hW]
  clear hW
  cases bi
  · refine wp_region_quiet_below (by kernel_rfl) (by kernel_rfl) ?_
    repeat (first | go_big_quiet_step (first | (go_at_call 80; with_reducible exact Calls.regrown_of (HH2.out _ _))))
    refine wpQuiet_nil ?_
    intro _ hw'
    obtain ⟨⟨dq, osq⟩, hw''⟩ := hw'
    subst hw''
    have J := below_regrown W dq osq
    generalize grow (redrawn W dq) osq = v at J ⊢
    go_wp2_with fail
    go_ret
    exact ⟨by first | rfl | simp, bw_trans BW J⟩
  · refine wp_region_quiet_below (by kernel_rfl) (by kernel_rfl) ?_
    repeat (first | go_big_quiet_step (first | (go_at_call 80; with_reducible exact Calls.regrown_of (HH2.out _ _)) | (go_at_call 64; with_reducible exact Calls.regrown_of (HF2.out _ _)) | (go_at_call 81; with_reducible exact Calls.regrown_of (HS2.out _ _))))
    refine wpQuiet_nil ?_
    intro _ hw'
    obtain ⟨⟨dq, osq⟩, hw''⟩ := hw'
    subst hw''
    have J := below_regrown W dq osq
    generalize grow (redrawn W dq) osq = v at J ⊢
    go_wp2_with fail
    go_ret
    exact ⟨by first | rfl | simp, bw_trans BW J⟩
set_option maxRecDepth 100000 in
set_option maxHeartbeats 2000000 in
theorem toolFits_any (a ah : Option Addr) (la ca nh ch : Nat) (o : List P2) (hs : List (List P2)) (r : Int) (p : P2) (ad : Addr) (w : World) (h0 : Sent ad w) (h : Plt w a la ah nh o hs) :
    Calls Tryz.prog 15 #[.agg #[.slice a la ca, .slice ah nh ch], .int .i64 r, .agg #[.int .i64 p.1, .int .i64 p.2]] w fun e W' => e = .returned (.bool (fitV o hs r p)) ∧ Below w.heap.size w W' := by
  obtain ⟨W, hW, BW, TP, T⟩ := boxes2 w (.cells #[.slice a la ca, .slice ah nh ch] 33) (.cells #[.int .i64 p.1, .int .i64 p.2] 35)
  have hT := toolOn_any a ah la ca nh ch o hs r ad W (h0.below BW) (h.below BW)
  have zB := BW.size
  have hzT := blk_lt T
  obtain ⟨t0, t1⟩ := blk_2 TP
  cases hrv : rV r && plV o hs
  · have e1 : Hid (fitV o hs r p = false) := by change _ = _; unfold fitV; rw [hrv]; rfl
    rw [hrv] at hT
    go_enter Tryz.func15, Tryz.ntmps15
    go_upto_region 1 with fail
    rw [← hW]
    clear hW
    go_wp2_with fail
    refine hT.mono ?_
    rintro e w1 ⟨⟨q, n, d, rfl, -⟩, J⟩
    obtain ⟨W1, hW1, B1, F⟩ : ∃ W1, W1 = w1.alloc (.cells #[.pointer q, .int .i64 n, .int .i64 d] 74) ∧ Below w1.heap.size w1 W1 ∧ W1.heap[w1.heap.size]? = some (.cells #[.pointer q, .int .i64 n, .int .i64 d] 74 (0, 0)) := ⟨_, rfl, (by repeat (first | exact bw_refl _ | assumption | apply bw_drewN | apply bw_drew | apply bw_alloc | refine bw_set ?_ (by simp) _)), heap_new _ _⟩
    go_upto_region 2 with fail
    rw [← hW1]
    clear hW1
    go_wp2_with fail
    go_ret
    exact ⟨by rw [e1.out]; rfl, bw_trans (bw_trans BW J) B1⟩
  rw [hrv] at hT
  rw [Bool.and_eq_true] at hrv
  obtain ⟨hr, hv⟩ := hrv
  cases hp : ptB p.1 p.2
  · have e1 : Hid (fitV o hs r p = false) := by change _ = _; unfold fitV; rw [hr, hv, hp]; rfl
    go_enter Tryz.func15, Tryz.ntmps15
    go_upto_region 1 with fail
    rw [← hW]
    clear hW
    go_wp2_with fail
    refine hT.mono ?_
    rintro e w1 ⟨⟨q, n, d, rfl, -⟩, J⟩
    obtain ⟨W1, hW1, B1, F⟩ : ∃ W1, W1 = w1.alloc (.cells #[.pointer q, .int .i64 n, .int .i64 d] 74) ∧ Below w1.heap.size w1 W1 ∧ W1.heap[w1.heap.size]? = some (.cells #[.pointer q, .int .i64 n, .int .i64 d] 74 (0, 0)) := ⟨_, rfl, (by repeat (first | exact bw_refl _ | assumption | apply bw_drewN | apply bw_drew | apply bw_alloc | refine bw_set ?_ (by simp) _)), heap_new _ _⟩
    have K := bw_trans J B1
    replace T := keep K T
    clear t0 t1
    obtain ⟨t0, t1⟩ := blk_2 T
    go_upto_region 2 with fail
    rw [← hW1]
    clear hW1
    go_wp2_with fail
    refine (pt_raw p _).mono ?_
    rw [hp]
    rintro e w2 ⟨rfl, J2⟩
    go_wp2_with fail
    go_ret
    exact ⟨by rw [e1.out]; rfl, bw_trans (bw_trans BW K) J2⟩
  · have e1 : Hid (fitV o hs r p = fitI o hs r p) := fitV_ok hr hv hp
    go_enter Tryz.func15, Tryz.ntmps15
    go_upto_region 1 with fail
    rw [← hW]
    clear hW
    go_wp2_with fail
    refine hT.mono ?_
    rintro e w1 ⟨⟨q, n, d, rfl, hR0⟩, J⟩
    obtain ⟨rfl, rfl, b, xs, rfl, hR, hx⟩ := hR0 rfl
    clear hR0
    obtain ⟨W1, hW1, B1, F⟩ : ∃ W1, W1 = w1.alloc (.cells #[.pointer (some ⟨b, 0, none⟩), .int .i64 n, .int .i64 1] 74) ∧ Below w1.heap.size w1 W1 ∧ W1.heap[w1.heap.size]? = some (.cells #[.pointer (some ⟨b, 0, none⟩), .int .i64 n, .int .i64 1] 74 (0, 0)) := ⟨_, rfl, (by repeat (first | exact bw_refl _ | assumption | apply bw_drewN | apply bw_drew | apply bw_alloc | refine bw_set ?_ (by simp) _)), heap_new _ _⟩
    have K := bw_trans J B1
    have zJ := J.size
    have zB1 := B1.size
    replace T := keep K T
    clear t0 t1
    obtain ⟨t0, t1⟩ := blk_2 T
    go_upto_region 2 with fail
    rw [← hW1]
    clear hW1
    go_wp2_with fail
    refine (pt_raw p _).mono ?_
    rw [hp]
    rintro e w2 ⟨rfl, J2⟩
    have zJ2 := J2.size
    have K2 := bw_trans (bw_trans BW K) J2
    replace T := keep J2 T
    replace F := keep J2 F
    clear t0 t1
    obtain ⟨t0, t1⟩ := blk_2 T
    obtain ⟨f0, f1, f2⟩ := blk_3 F
    have hF := fits_any b ⟨a, la, ca, o⟩ xs hs n p ad w2 (h0.below K2) (((hR.below B1 (by omega)).below J2 (by omega)).grow (by omega)) hx hv hr hp
    go_wp2_with fail
    refine hF.mono ?_
    rintro e w3 ⟨rfl, J3⟩
    go_wp2_with fail
    go_ret
    exact ⟨by rw [e1.out]; rfl, bw_trans K2 J3⟩
end Go.Proofs.YtmdjhoknlplecaaGreatDoor
namespace Go.Proofs.YtmdjhoknlplecaaGreatDoor
open Go.RowKit Go.Sort

/-- The greatest up to k that fits; 0, if none does. -/
def mostF (F : Int → Bool) : Nat → Int
  | 0 => 0
  | k + 1 => if F ((k : Int) + 1) then (k : Int) + 1 else mostF F k
theorem mostF_bd (F : Int → Bool) (k : Nat) : 0 ≤ mostF F k ∧ mostF F k ≤ k := by
  induction k with
  | zero => exact ⟨Int.le_refl _, Int.le_refl _⟩
  | succ k ih => unfold mostF; split <;> omega
theorem mostF_ge {F : Int → Bool} {k : Nat} {r : Int} (h1 : 1 ≤ r) (h2 : r ≤ k) (hF : F r = true) : r ≤ mostF F k := by
  induction k with
  | zero => omega
  | succ k ih =>
    unfold mostF
    by_cases e : r = (k : Int) + 1
    · subst e; rw [if_pos hF]; exact Int.le_refl _
    · have := ih (by omega)
      split <;> omega
theorem mostF_fit {F : Int → Bool} {k : Nat} (h : 1 ≤ mostF F k) : F (mostF F k) = true := by
  induction k with
  | zero => unfold mostF at h; omega
  | succ k ih =>
    unfold mostF at h ⊢
    split
    · rename_i hF; exact hF
    · rename_i hF; rw [if_neg hF] at h; exact ih h
theorem mostF_none {F : Int → Bool} {k : Nat} (h : ∀ r : Int, 1 ≤ r → r ≤ (k : Int) → F r = false) : mostF F k = 0 := by
  have b := mostF_bd F k
  by_cases h1 : 1 ≤ mostF F k
  · have := mostF_fit h1
    rw [h _ h1 b.2] at this; cases this
  · omega
theorem mostF_min {F : Int → Bool} {k : Nat} {m : Int} (hm : 0 ≤ m) (h : ∀ r : Int, 1 ≤ r → r ≤ (k : Int) → F r = decide (r ≤ m)) : mostF F k = min m k := by
  have b := mostF_bd F k
  have up : mostF F k ≤ m := by
    by_cases h1 : 1 ≤ mostF F k
    · have := mostF_fit h1
      rw [h _ h1 b.2] at this; simpa using this
    · omega
  have dn : min m k ≤ mostF F k := by
    by_cases h1 : 1 ≤ min m (k : Int)
    · exact mostF_ge h1 (by omega) (by rw [h _ h1 (by omega)]; simp; omega)
    · omega
  omega
theorem sp_le' {r : Int} {f g : Int × Int} (hr : rV r = true) (hf : OkF f) (hg : OkF g) (h : LeF f g) (hs : spB r f = true) : spB r g = true := by
  unfold spB at *
  rw [decide_eq_true_eq] at *
  have o1 : OkF (r, 1) := ok_whole hr
  have := LeF.trans o1 hf hg (f := (r, 1)) (by unfold LeF; dsimp only; omega) h
  unfold LeF at this
  dsimp only at this
  omega
/-- A smaller tool fits where a larger one does. -/
theorem sp_less {r q : Int} {f : Int × Int} (hf : OkF f) (h : q ≤ r) (hs : spB r f = true) : spB q f = true := by
  unfold spB at *
  rw [decide_eq_true_eq] at *
  have := Int.mul_le_mul_of_nonneg_right h (show 0 ≤ f.2 by have := hf.pos; omega)
  omega
theorem fitV_less {o : List P2} {hs : List (List P2)} {r q : Int} {p : P2} (h1 : 1 ≤ q) (h2 : q ≤ r) (h : fitV o hs r p = true) : fitV o hs q p = true := by
  have hr : rV r = true := by unfold fitV at h; cases e : rV r <;> rw [e] at h <;> simp at h ⊢
  have hv : plV o hs = true := by unfold fitV at h; rw [hr] at h; cases e : plV o hs <;> rw [e] at h <;> simp at h ⊢
  have hp : ptB p.1 p.2 = true := by unfold fitV at h; rw [hr, hv] at h; cases e : ptB p.1 p.2 <;> rw [e] at h <;> simp at h ⊢
  have hq : rV q = true := by rw [rV_iff] at hr ⊢; omega
  rw [fitV_ok hr hv hp] at h
  rw [fitV_ok hq hv hp]
  unfold fitI at h ⊢
  rw [Bool.and_eq_true] at h ⊢
  exact ⟨h.1, sp_less (plFI_ok hv hp) h2 h.2⟩
/-- Without holes it fits, too. -/
theorem fitV_bare {o : List P2} {hs : List (List P2)} {r : Int} {p : P2} (h : fitV o hs r p = true) : fitV o [] r p = true := by
  have hr : rV r = true := by unfold fitV at h; cases e : rV r <;> rw [e] at h <;> simp at h ⊢
  have hv : plV o hs = true := by unfold fitV at h; rw [hr] at h; cases e : plV o hs <;> rw [e] at h <;> simp at h ⊢
  have hp : ptB p.1 p.2 = true := by unfold fitV at h; rw [hr, hv] at h; cases e : ptB p.1 p.2 <;> rw [e] at h <;> simp at h ⊢
  have L := (plV_iff _ _).1 hv
  have hv0 : plV o [] = true := okV_plV L.out
  rw [fitV_ok hr hv hp] at h
  rw [fitV_ok hr hv0 hp]
  unfold fitI at h ⊢
  rw [Bool.and_eq_true, decide_eq_true_eq] at h ⊢
  have hi := (plI_one hv p).1 h.1
  refine ⟨(plI_one hv0 p).2 ⟨hi.1, fun x hx => by simp at hx⟩, ?_⟩
  have m0 := plFI_least hv0 (p := p) hp
  obtain ⟨s, hs', e⟩ := List.mem_map.1 m0.mem
  have hin : s ∈ plE o hs := by rw [plE_eq hv]; rw [plE_eq hv0] at hs'; simp at hs'; exact List.mem_append_left _ hs'
  exact sp_le' hr (plFI_ok hv hp) (plFI_ok hv0 hp) (by rw [← e]; exact (plFI_least hv hp).le _ (List.mem_map.2 ⟨s, hin, rfl⟩)) h.2
set_option maxRecDepth 100000 in
set_option maxHeartbeats 2000000 in
theorem luMost_any (a ah : Option Addr) (la ca nh ch : Nat) (o : List P2) (hs : List (List P2)) (p : P2) (ad : Addr) (w : World) (h0 : Sent ad w) (h : Plt w a la ah nh o hs) :
    Calls Tryz.prog 26 #[.agg #[.slice a la ca, .slice ah nh ch], .agg #[.int .i64 p.1, .int .i64 p.2]] w fun e W' => e = .returned (.int .i64 (mostF (fun r => fitV o hs r p) 9)) ∧ Below w.heap.size w W' := by
  obtain ⟨W, hW, BW, TP, T⟩ := boxes2 w (.cells #[.slice a la ca, .slice ah nh ch] 33) (.cells #[.int .i64 p.1, .int .i64 p.2] 35)
  obtain ⟨F, hF⟩ : ∃ F : Int → Bool, F = fun r => fitV o hs r p := ⟨_, rfl⟩
  have HF : Hid (∀ r V, Below w.heap.size w V → Calls Tryz.prog 15 #[.agg #[.slice a la ca, .slice ah nh ch], .int .i64 r, .agg #[.int .i64 p.1, .int .i64 p.2]] V fun e W' => e = .returned (.bool (F r)) ∧ Below V.heap.size V W') := fun r V hV => by
    rw [hF]; exact toolFits_any a ah la ca nh ch o hs r p ad V (h0.below hV) (h.below hV)
  rw [← hF]
  clear hF
  go_enter Tryz.func26, Tryz.ntmps26
  go_upto_region 1 with fail
  rw [← hW]
  clear hW
  go_wp2_with fail
  go_loopw [5, 6] (fun s i wr => ∃ k : Nat, k ≤ 9 ∧ i = .int .i64 ((k : Int) + 1) ∧ s = .int .i64 (mostF F k) ∧ Below W.heap.size W wr) (fun _ i _ => 10 - (intOf i).toNat)
  case atStart => exact ⟨0, by omega, rfl, rfl, bw_refl _⟩
  case round =>
    obtain ⟨k, hk, rfl, rfl, hnx⟩ := hrel
    have K := bw_trans BW hnx
    have hbd := mostF_bd F k
    by_cases hlt : k < 9
    case pos =>
      obtain ⟨p0, p1⟩ := blk_2 (keep hnx TP)
      obtain ⟨t0, t1⟩ := blk_2 (keep hnx T)
      have hX := HF.out ((k : Int) + 1) wr K
      have HM : Hid (mostF F (k + 1) = if F ((k : Int) + 1) then (k : Int) + 1 else mostF F k) := rfl
      obtain ⟨b, hb⟩ : ∃ b, F ((k : Int) + 1) = b := ⟨_, rfl⟩
      rw [hb] at hX HM
      clear hb
      have m9 : (k : Int) + 1 ≤ 9 := by omega
      have m9' : ¬ 9 < (k : Int) + 1 := by omega
      cases b
      · have HM2 : Hid (mostF F (k + 1) = mostF F k) := HM.out
        clear HM
        generalize mostF F k = u at *
        go_wp2_with fail
        refine hX.mono ?_
        rintro e v2 ⟨rfl, J⟩
        go_wp2_with fail
        go_roundw
        case rel => exact ⟨k + 1, by omega, by simp, by rw [HM2.out], bw_trans hnx J⟩
        case measure => simp [intOf]; omega
      · have HM2 : Hid (mostF F (k + 1) = (k : Int) + 1) := HM.out
        clear HM
        generalize mostF F k = u at *
        go_wp2_with fail
        refine hX.mono ?_
        rintro e v2 ⟨rfl, J⟩
        go_wp2_with fail
        go_roundw
        case rel => exact ⟨k + 1, by omega, by simp, by rw [HM2.out], bw_trans hnx J⟩
        case measure => simp [intOf]; omega
    case neg =>
      obtain rfl : k = 9 := by omega
      have hgt : ¬ ((9 : Nat) : Int) + 1 ≤ 9 := by omega
      go_wp2_with fail
      go_ret
      exact ⟨rfl, K⟩
end Go.Proofs.YtmdjhoknlplecaaGreatDoor
namespace Go.Proofs.YtmdjhoknlplecaaGreatDoor
open Go.RowKit Go.Sort

theorem plInV_ok {o : List P2} {hs : List (List P2)} {p : P2} (h : plV o hs = true) (hp : ptB p.1 p.2 = true) : plInV o hs p = plI o hs p := by unfold plInV; rw [h, hp]; rfl
theorem plInV_no {o : List P2} {hs : List (List P2)} {p : P2} (h : plV o hs = false) : plInV o hs p = -1 := by unfold plInV; rw [h]; rfl
theorem inV_ok {l : List P2} {p : P2} (h : okV l = true) (hp : ptB p.1 p.2 = true) : inV l p = inI l p := by unfold inV; rw [h, hp]; rfl
theorem Plt.less {W : World} {a ah : Option Addr} {la m : Nat} {o x : List P2} {hs : List (List P2)} (h : Plt W a la ah (m + 1) o (hs ++ [x])) : Plt W a la ah m o hs := by
  obtain ⟨h1, h2, h3, A, L, C, h4, h5⟩ := h
  have hm : hs.length = m := by simpa using h3
  refine ⟨h1, h2, hm, A, L, C, ?_, fun j hj => ?_⟩
  · rcases h4 with h | ⟨b, off, e, hb, hc⟩
    · omega
    · exact .inr ⟨b, off, e, hb, fun j hj => hc j (by omega)⟩
  · have := h5 j (by omega)
    rwa [List.getElem?_append_left (by omega)] at this
theorem PlD.hole {base : Nat} {W : World} {o : LoopT} {gh ch : Nat} {hs : List LoopT} (h : PlD base W o (.slice (some ⟨gh, 0, none⟩) hs.length ch) hs) {j : Nat} (hj : j < hs.length) :
    ∃ gt nt ct lt, hs[j]? = some (⟨gt, nt, ct, lt⟩ : LoopT) ∧ (hs.map LoopT.l)[j]?.getD [] = lt ∧ W.cell? ⟨gh, j, none⟩ = some (.slice (some ⟨gt, 0, none⟩) nt ct) ∧ 3 ≤ nt ∧ nt ≤ 8 ∧ lt.length = nt ∧ PtBlk W gt ct lt nt := by
  obtain ⟨_, _, hr, ht⟩ := h
  have hc := own_news hr (j := j) (u := (hs[j]).v) (by simp [hj])
  rw [show ((⟨gh, 0, none⟩ : Addr).add j) = ⟨gh, j, none⟩ by unfold Addr.add; split <;> simp_all] at hc
  have hk := ht hs[j] (List.getElem_mem hj)
  have e1 : hs[j]? = some hs[j] := by simp [hj]
  have e2 : (hs.map LoopT.l)[j]?.getD [] = hs[j].l := by simp [hj]
  generalize hs[j] = t at *
  obtain ⟨gt, nt, ct, lt⟩ := t
  obtain ⟨k1, k2, k3, k4, k5, k6, k7⟩ := hk
  exact ⟨gt, nt, ct, lt, e1, e2, hc, k1, k2, k3, k7⟩
theorem blk_pt {W : World} {g c n k : Nat} {l : List P2} (h : PtBlk W g c l n) (hk : k < n) : W.cell? ⟨g, k * 2, none⟩ = some (.int .i64 (ptAt l k).1) ∧ W.cell? ⟨g, k * 2 + 1, none⟩ = some (.int .i64 (ptAt l k).2) := by
  obtain ⟨cur, h, hs, hc⟩ := h
  rw [row_cell h, row_cell h]; exact hc k hk
theorem plt_one {W : World} {a x : Option Addr} {la lx cx b : Nat} {o xs : List P2} {t : TypeId} (hla : la ≤ 1048576) (hO : Pts W.heap.size W a la o) (hb : W.heap[b]? = some (.cells #[.slice x lx cx] t (0, 0))) (hlx : lx ≤ 1048576) (hx : Pts W.heap.size W x lx xs) : Plt W a la (some ⟨b, 0, none⟩) 1 o [xs] := by
  refine ⟨hla, hO, rfl, fun _ => x, fun _ => lx, fun _ => cx, .inr ⟨b, 0, rfl, blk_lt hb, fun j hj => ?_⟩, fun j hj => ?_⟩
  · obtain rfl : j = 0 := by omega
    rw [row_cell hb]; rfl
  · obtain rfl : j = 0 := by omega
    exact ⟨hlx, hx⟩
theorem plt_two {W : World} {a x : Option Addr} {la lx cx b : Nat} {o xs : List P2} {t : TypeId} (hla : la ≤ 1048576) (hO : Pts W.heap.size W a la o) (hb : W.heap[b]? = some (.cells #[.slice x lx cx, .slice x lx cx] t (0, 0))) (hlx : lx ≤ 1048576) (hx : Pts W.heap.size W x lx xs) : Plt W a la (some ⟨b, 0, none⟩) 2 o [xs, xs] := by
  refine ⟨hla, hO, rfl, fun _ => x, fun _ => lx, fun _ => cx, .inr ⟨b, 0, rfl, blk_lt hb, fun j hj => ?_⟩, fun j hj => ?_⟩
  · obtain rfl | rfl : j = 0 ∨ j = 1 := by omega
    · rw [row_cell hb]; rfl
    · rw [row_cell hb]; rfl
  · obtain rfl | rfl : j = 0 ∨ j = 1 := by omega
    · exact ⟨hlx, hx⟩
    · exact ⟨hlx, hx⟩
theorem plt_nil {W : World} {a : Option Addr} {la : Nat} {o : List P2} (hla : la ≤ 1048576) (hO : Pts W.heap.size W a la o) : Plt W a la none 0 o [] :=
  ⟨hla, hO, rfl, fun _ => none, fun _ => 0, fun _ => 0, .inl rfl, fun _ hj => absurd hj (Nat.not_lt_zero _)⟩
end Go.Proofs.YtmdjhoknlplecaaGreatDoor
namespace Go.Proofs.YtmdjhoknlplecaaGreatDoor
open Go.RowKit Go.Sort

set_option maxRecDepth 100000 in
set_option maxHeartbeats 1000000 in
theorem plateFar_any (a ah : Option Addr) (la ca nh ch : Nat) (o : List P2) (hs : List (List P2)) (p : P2) (ad : Addr) (w : World) (h0 : Sent ad w) (h : Plt w a la ah nh o hs) :
    Calls Tryz.prog 25 #[.agg #[.slice a la ca, .slice ah nh ch], .agg #[.int .i64 p.1, .int .i64 p.2]] w fun e W' => e = .returned (.agg #[.int .i64 (plFV o hs p).1, .int .i64 (plFV o hs p).2]) ∧ Below w.heap.size w W' := by
  obtain ⟨W, hW, BW, TP, T, RB⟩ := boxes3 w (.cells #[.slice a la ca, .slice ah nh ch] 33) (.cells #[.int .i64 p.1, .int .i64 p.2] 35) (.cells #[.int .i64 0, .int .i64 0] 47)
  have hh := h.below BW
  obtain ⟨t0, t1⟩ := blk_2 TP
  have zP := blk_lt TP
  have zR := blk_lt RB
  have zB := BW.size
  cases hv : plV o hs
  · have e1 : Hid (plFV o hs p = (0, 0)) := plFV_no (.inl hv)
    go_enter Tryz.func25, Tryz.ntmps25
    go_upto_region 1 with fail
    rw [← hW]
    clear hW
    go_wp2_with fail
    refine (board_any a ah la ca nh ch o hs _ hh).mono ?_
    rw [hv]
    rintro e w1 ⟨q, rfl, J, _⟩
    replace RB := keep J RB
    obtain ⟨q0, q1, qf0, qf1⟩ := blkF RB
    have RB2 := setF2 RB (u0 := .int .i64 0) (u1 := .int .i64 0)
    obtain ⟨v0, v1⟩ := blk_2 RB2
    go_wp2_with fail
    exact bodyPost_ret (v := .agg #[.int .i64 0, .int .i64 0]) (by simp [results, Tryz.results25, go_sem, v0, v1]) rfl ⟨by rw [e1.out], bw_set (bw_set (bw_trans BW J) (p := ⟨w.heap.size + 2, 0, none⟩) (by dsimp only; omega) _) (p := ⟨w.heap.size + 2, 1, none⟩) (by dsimp only; omega) _⟩
  cases hp : ptB p.1 p.2
  · have e1 : Hid (plFV o hs p = (0, 0)) := plFV_no (.inr hp)
    go_enter Tryz.func25, Tryz.ntmps25
    go_upto_region 1 with fail
    rw [← hW]
    clear hW
    go_wp2_with fail
    refine (board_any a ah la ca nh ch o hs _ hh).mono ?_
    rw [hv]
    rintro e w1 ⟨q, rfl, J, _⟩
    replace T := keep J T
    clear t0 t1
    obtain ⟨t0, t1⟩ := blk_2 T
    go_wp2_with fail
    refine (pt_raw p _).mono ?_
    rw [hp]
    rintro e w2 ⟨rfl, J2⟩
    replace RB := keep (bw_trans J J2) RB
    obtain ⟨q0, q1, qf0, qf1⟩ := blkF RB
    have RB2 := setF2 RB (u0 := .int .i64 0) (u1 := .int .i64 0)
    obtain ⟨v0, v1⟩ := blk_2 RB2
    go_wp2_with fail
    exact bodyPost_ret (v := .agg #[.int .i64 0, .int .i64 0]) (by simp [results, Tryz.results25, go_sem, v0, v1]) rfl ⟨by rw [e1.out], bw_set (bw_set (bw_trans (bw_trans BW J) J2) (p := ⟨w.heap.size + 2, 0, none⟩) (by dsimp only; omega) _) (p := ⟨w.heap.size + 2, 1, none⟩) (by dsimp only; omega) _⟩
  · have e1 : Hid (plFV o hs p = plFI o hs p) := plFV_ok hv hp
    have L := (plV_iff o hs).1 hv
    have n3 := plE_ne hv
    have n24 := plE_len o hs
    have hfo : ∀ s ∈ plE o hs, OkF (farS p s) := fun s hs => farS_ok (plE_ok hv hs) hp
    go_enter Tryz.func25, Tryz.ntmps25
    go_upto_region 1 with fail
    rw [← hW]
    clear hW
    go_wp2_with fail
    refine (board_any a ah la ca nh ch o hs _ hh).mono ?_
    rintro e w1 ⟨q, rfl, J, hR⟩
    obtain ⟨b, xs, rfl, hR, hx⟩ := hR hv
    rw [hv]
    replace T := keep J T
    clear t0 t1
    obtain ⟨t0, t1⟩ := blk_2 T
    go_wp2_with fail
    refine (pt_raw p _).mono ?_
    rw [hp]
    rintro e w2 ⟨rfl, J2⟩
    replace T := keep J2 T
    clear t0 t1
    obtain ⟨t0, t1⟩ := blk_2 T
    have hE : edgR (⟨a, la, ca, o⟩ :: xs) = plE o hs := by rw [edgR_eq _ _ hs hx, plE_eq hv]
    have hcall := boardFar_any b (⟨a, la, ca, o⟩ :: xs) p ad w2 (h0.below (bw_trans (bw_trans BW J) J2)) (RingL.ringN (Nat.le_refl _) ((hR.below J2 (Nat.le_refl _)).grow J2.size)) (by rw [hE]; omega) (by rw [hE]; omega) (by rw [hE]; exact hfo)
    rw [hE, show leastL ((plE o hs).map (farS p)) = plFI o hs p from rfl, ← e1.out] at hcall
    clear hE hR hfo
    go_wp2_with fail
    refine hcall.mono ?_
    rintro e w3 ⟨rfl, J3⟩
    replace RB := keep (bw_trans (bw_trans J J2) J3) RB
    obtain ⟨q0, q1, qf0, qf1⟩ := blkF RB
    have RB2 := setF2 RB (u0 := .int .i64 (plFV o hs p).1) (u1 := .int .i64 (plFV o hs p).2)
    obtain ⟨v0, v1⟩ := blk_2 RB2
    go_wp2_with fail
    exact bodyPost_ret (v := .agg #[.int .i64 (plFV o hs p).1, .int .i64 (plFV o hs p).2]) (by simp [results, Tryz.results25, go_sem, v0, v1]) rfl ⟨rfl, bw_set (bw_set (bw_trans (bw_trans (bw_trans BW J) J2) J3) (p := ⟨w.heap.size + 2, 0, none⟩) (by dsimp only; omega) _) (p := ⟨w.heap.size + 2, 1, none⟩) (by dsimp only; omega) _⟩
end Go.Proofs.YtmdjhoknlplecaaGreatDoor
namespace Go.Proofs.YtmdjhoknlplecaaGreatDoor
open Go.RowKit Go.Sort

theorem plInV_okb {o : List P2} {hs : List (List P2)} {p : P2} (h : plV o hs = true) (hp : ptB p.1 p.2 = true) : plInV o hs p = plI o hs p := by unfold plInV; rw [h, hp]; rfl
theorem most_out {o : List P2} {hs : List (List P2)} {p : P2} (hv : plV o hs = true) (hp : ptB p.1 p.2 = true) (h : plI o hs p ≠ 1) : mostF (fun r => fitV o hs r p) 9 = 0 := by
  refine mostF_none fun r h1 h2 => ?_
  have hr : rV r = true := by rw [rV_iff]; omega
  rw [fitV_ok hr hv hp]
  unfold fitI
  rw [decide_eq_false h, Bool.false_and]
theorem most_in {o : List P2} {hs : List (List P2)} {p : P2} (hv : plV o hs = true) (hp : ptB p.1 p.2 = true) (h : plI o hs p = 1) : mostF (fun r => fitV o hs r p) 9 = min ((plFI o hs p).1 / (plFI o hs p).2) 9 := by
  have hf := (plFI_ok hv (p := p) hp).pos
  have key := mostF_min (F := fun r => fitV o hs r p) (k := 9) (m := (plFI o hs p).1 / (plFI o hs p).2) (Int.ediv_nonneg hf.1 (by omega)) fun r h1 h2 => by
    have hr : rV r = true := by rw [rV_iff]; omega
    rw [fitV_ok hr hv hp]
    unfold fitI spB
    rw [decide_eq_true h, Bool.true_and, decide_eq_decide, Int.le_ediv_iff_mul_le hf.2]
  exact key

set_option maxRecDepth 100000 in
set_option maxHeartbeats 8000000 in
theorem fitsMost_walk (w : World) (a0 : Option Addr) (len0 cap0 : Nat) (z0 : List Int) (r0 : IsRow .u8 w a0 len0 cap0 z0) (ad : Addr) (hs0 : Sent ad w) :
    Calls Tryz.prog 10 #[.slice a0 len0 cap0] w fun e w' => e = .returned (.bool true) ∧ Below w.heap.size w w' := by
  by_cases hl : 1048576 < len0
  · go_enter Tryz.func10, Tryz.ntmps10
    go_wp2
    go_ret
    exact ⟨rfl, bw_refl _⟩
  have hl0 : len0 ≤ 1048576 := by omega
  clear hl
  go_enter Tryz.func10, Tryz.ntmps10
  go_wp2_with fail
  refine (drawToolFits_any w _ r0 (bw_refl _)).mono ?_
  rintro e w1 ⟨⟨g, n, c, l⟩, hv, hs, r, x, y, he, hrb, hPB, hD, ⟨hs3, hst⟩, J1⟩
  obtain rfl : e = .returned (.tuple #[.agg #[.slice (some ⟨g, 0, none⟩) n c, hv], .int .i64 r, .agg #[.int .i64 x, .int .i64 y]]) := he
  obtain ⟨gh, ch, rfl⟩ : ∃ gh ch, hv = .slice (some ⟨gh, 0, none⟩) hs.length ch := own_seat hD.2.2.1 hst
  obtain ⟨W, hW, BW, T, T2⟩ := boxes2 w1 (.cells #[.slice (some ⟨g, 0, none⟩) n c, .slice (some ⟨gh, 0, none⟩) hs.length ch] 33) (.cells #[.int .i64 x, .int .i64 y] 35)
  replace hD := hD.below BW
  have K := bw_trans J1 BW
  go_upto_region 5 with fail
  rw [← hW]
  clear hW BW J1
  have hPl := hD.plt
  obtain ⟨N, hNN⟩ : ∃ N, hs.length = N := ⟨_, rfl⟩
  have HN : Hid (hs.length = N) := hNN
  rw [hNN] at T hPl
  rw [hNN]
  clear hNN hst
  have hN3 : N ≤ 3 := by have := HN.out; omega
  obtain ⟨t0, t1⟩ := blk_2 T
  obtain ⟨u0, u1⟩ := blk_2 T2
  have zT := blk_lt T
  obtain ⟨hS, hHS⟩ : ∃ hS, hs.map LoopT.l = hS := ⟨_, rfl⟩
  rw [hHS] at hPl
  obtain ⟨ok, hok⟩ : ∃ ok, fitV l hS r (x, y) = ok := ⟨_, rfl⟩
  go_wp2_with fail
  refine (toolFits_any _ _ n c N ch l hS r (x, y) ad _ (hs0.below K) hPl).mono ?_
  rw [hok]
  rintro e w11 ⟨rfl, J⟩
  replace K := bw_trans K J
  replace T := keep J T
  replace T2 := keep J T2
  replace hPl := hPl.below J
  clear J t0 t1 u0 u1
  obtain ⟨t0, t1⟩ := blk_2 T
  obtain ⟨u0, u1⟩ := blk_2 T2
  have hbb : (ok != ok) = false := by simp
  have hb2 : (ok == ok) = true := by simp
  cases hv : plV l hS
  case false =>
    go_wp2_with fail
    refine (sToolFits_any _ _ n c N ch l hS r (x, y) _ hPl).mono ?_
    rw [hok]
    rintro e w12 ⟨rfl, J⟩
    replace K := bw_trans K J
    replace T := keep J T
    replace T2 := keep J T2
    replace hPl := hPl.below J
    clear J t0 t1 u0 u1
    obtain ⟨t0, t1⟩ := blk_2 T
    obtain ⟨u0, u1⟩ := blk_2 T2
    go_wp2_with fail
    refine (sPlateOk_any _ _ n c N ch l hS _ hPl).mono ?_
    rw [hv]
    rintro e w13 ⟨rfl, J⟩
    replace K := bw_trans K J
    replace T := keep J T
    replace T2 := keep J T2
    replace hPl := hPl.below J
    clear J t0 t1 u0 u1
    obtain ⟨t0, t1⟩ := blk_2 T
    obtain ⟨u0, u1⟩ := blk_2 T2
    go_wp2_with fail
    refine (sToolFits_any _ _ n c N ch l hS r (x, y) _ hPl).mono ?_
    rw [hok]
    rintro e w14 ⟨rfl, J⟩
    replace K := bw_trans K J
    replace T := keep J T
    replace T2 := keep J T2
    replace hPl := hPl.below J
    clear J t0 t1 u0 u1
    obtain ⟨t0, t1⟩ := blk_2 T
    obtain ⟨u0, u1⟩ := blk_2 T2
    go_wp2_with fail
    go_ret
    exact ⟨by first | rfl | simp, K⟩
  cases hp : ptB x y
  case false =>
    go_wp2_with fail
    refine (sToolFits_any _ _ n c N ch l hS r (x, y) _ hPl).mono ?_
    rw [hok]
    rintro e w15 ⟨rfl, J⟩
    replace K := bw_trans K J
    replace T := keep J T
    replace T2 := keep J T2
    replace hPl := hPl.below J
    clear J t0 t1 u0 u1
    obtain ⟨t0, t1⟩ := blk_2 T
    obtain ⟨u0, u1⟩ := blk_2 T2
    go_wp2_with fail
    refine (sPlateOk_any _ _ n c N ch l hS _ hPl).mono ?_
    rw [hv]
    rintro e w16 ⟨rfl, J⟩
    replace K := bw_trans K J
    replace T := keep J T
    replace T2 := keep J T2
    replace hPl := hPl.below J
    clear J t0 t1 u0 u1
    obtain ⟨t0, t1⟩ := blk_2 T
    obtain ⟨u0, u1⟩ := blk_2 T2
    go_wp2_with fail
    refine (sPt_any x y _).mono ?_
    rw [hp]
    rintro e w17 ⟨rfl, J⟩
    replace K := bw_trans K J
    replace T := keep J T
    replace T2 := keep J T2
    replace hPl := hPl.below J
    clear J t0 t1 u0 u1
    obtain ⟨t0, t1⟩ := blk_2 T
    obtain ⟨u0, u1⟩ := blk_2 T2
    go_wp2_with fail
    refine (sToolFits_any _ _ n c N ch l hS r (x, y) _ hPl).mono ?_
    rw [hok]
    rintro e w18 ⟨rfl, J⟩
    replace K := bw_trans K J
    replace T := keep J T
    replace T2 := keep J T2
    replace hPl := hPl.below J
    clear J t0 t1 u0 u1
    obtain ⟨t0, t1⟩ := blk_2 T
    obtain ⟨u0, u1⟩ := blk_2 T2
    go_wp2_with fail
    go_ret
    exact ⟨by first | rfl | simp, K⟩
  go_wp2_with fail
  refine (sToolFits_any _ _ n c N ch l hS r (x, y) _ hPl).mono ?_
  rw [hok]
  rintro e w19 ⟨rfl, J⟩
  replace K := bw_trans K J
  replace T := keep J T
  replace T2 := keep J T2
  replace hPl := hPl.below J
  clear J t0 t1 u0 u1
  obtain ⟨t0, t1⟩ := blk_2 T
  obtain ⟨u0, u1⟩ := blk_2 T2
  go_wp2_with fail
  refine (sPlateOk_any _ _ n c N ch l hS _ hPl).mono ?_
  rw [hv]
  rintro e w20 ⟨rfl, J⟩
  replace K := bw_trans K J
  replace T := keep J T
  replace T2 := keep J T2
  replace hPl := hPl.below J
  clear J t0 t1 u0 u1
  obtain ⟨t0, t1⟩ := blk_2 T
  obtain ⟨u0, u1⟩ := blk_2 T2
  go_wp2_with fail
  refine (sPt_any x y _).mono ?_
  rw [hp]
  rintro e w21 ⟨rfl, J⟩
  replace K := bw_trans K J
  replace T := keep J T
  replace T2 := keep J T2
  replace hPl := hPl.below J
  clear J t0 t1 u0 u1
  obtain ⟨t0, t1⟩ := blk_2 T
  obtain ⟨u0, u1⟩ := blk_2 T2
  have hpi : plInV l hS (x, y) = plI l hS (x, y) := plInV_okb hv hp
  have hpf : plFV l hS (x, y) = plFI l hS (x, y) := plFV_ok hv hp
  have hfo : OkF (plFI l hS (x, y)) := plFI_ok hv hp
  have hout := most_out (p := (x, y)) hv hp
  have hinn := most_in (p := (x, y)) hv hp
  obtain ⟨f, hf⟩ : ∃ f, plFI l hS (x, y) = f := ⟨_, rfl⟩
  obtain ⟨u, hu⟩ : ∃ u, plI l hS (x, y) = u := ⟨_, rfl⟩
  obtain ⟨mo, hmo⟩ : ∃ m, mostF (fun r => fitV l hS r (x, y)) 9 = m := ⟨_, rfl⟩
  rw [hf] at hpf hfo hinn
  rw [hu] at hpi hout hinn
  rw [hmo] at hout hinn
  have HL : Hid (∀ V, Sent ad V → Plt V (some ⟨g, 0, none⟩) n (some ⟨gh, 0, none⟩) N l hS → Calls Tryz.prog 26 #[.agg #[.slice (some ⟨g, 0, none⟩) n c, .slice (some ⟨gh, 0, none⟩) N ch], .agg #[.int .i64 x, .int .i64 y]] V fun e W' => e = .returned (.int .i64 mo) ∧ Below V.heap.size V W') := fun V hV hP => by
    have := luMost_any _ _ n c N ch l hS (x, y) ad V hV hP
    rwa [hmo] at this
  have hF := plateFar_any _ _ n c N ch l hS (x, y) ad _ (hs0.below K) hPl
  rw [hpf] at hF
  go_wp2_with fail
  refine hF.mono ?_
  rintro e w30 ⟨rfl, J⟩
  obtain ⟨W3, hW3, B3, X⟩ : ∃ W3, W3 = w30.alloc (.cells #[.int .i64 f.1, .int .i64 f.2] 47) ∧ Below w30.heap.size w30 W3 ∧ W3.heap[w30.heap.size]? = some (.cells #[.int .i64 f.1, .int .i64 f.2] 47 (0, 0)) := ⟨_, rfl, (by repeat (first | exact bw_refl _ | assumption | apply bw_drewN | apply bw_drew | apply bw_alloc | refine bw_set ?_ (by simp) _)), heap_new _ _⟩
  have J3 := bw_trans J B3
  replace K := bw_trans K J3
  replace T := keep J3 T
  replace T2 := keep J3 T2
  replace hPl := hPl.below J3
  clear J J3 B3 t0 t1 u0 u1 hF hpf hf hu hmo hok hbb hb2
  obtain ⟨t0, t1⟩ := blk_2 T
  obtain ⟨u0, u1⟩ := blk_2 T2
  have zX := blk_lt X
  go_upto_region 8 with fail
  rw [← hW3]
  clear hW3
  by_cases h1 : u = 1
  · have hu1 : (u != 1) = false := by simp [h1]
    have hm := hinn h1
    have hfp := hfo.pos
    obtain ⟨q, hq⟩ : ∃ q, f.1 / f.2 = q := ⟨_, rfl⟩
    rw [hq] at hm
    have hq0 : 0 ≤ q := by rw [← hq]; exact Int.ediv_nonneg hfp.1 (by omega)
    have hqn : q ≤ f.1 := by rw [← hq]; exact Int.ediv_le_self _ hfp.1
    have hfn := (okB_iff _ _).1 hfo
    have htq : f.1.tdiv f.2 = q := by rw [Int.tdiv_eq_ediv_of_nonneg hfp.1]; exact hq
    have hwq : IntKind.i64.wrap q = q := wrap_small (by omega) (by omega)
    have hdz : (f.2 = 0) = False := by simp; omega
    clear hout hinn hq h1
    go_wp2_with fail
    refine (plateIn_any _ _ n c N ch l hS (x, y) _ hPl).mono ?_
    rw [hpi]
    rintro e w22 ⟨rfl, J⟩
    replace K := bw_trans K J
    replace T := keep J T
    replace T2 := keep J T2
    replace hPl := hPl.below J
    replace X := keep J X
    clear J t0 t1 u0 u1
    obtain ⟨t0, t1⟩ := blk_2 T
    obtain ⟨u0, u1⟩ := blk_2 T2
    obtain ⟨xq0, xq1⟩ := blk_2 X
    go_upto_region 10 with fail
    clear t0 t1 u0 u1 xq0 xq1
    obtain ⟨t0, t1⟩ := reg_2 T
    obtain ⟨u0, u1⟩ := reg_2 T2
    obtain ⟨x0, x1⟩ := reg_2 X
    have hsV := hs0.below K
    have HM := fun d os => HL.out _ (hsV.below (below_regrown _ d os)) (hPl.below (below_regrown _ d os))
    clear HL hPl
    by_cases h9 : 9 < q
    · have hm9 : mo = 9 := by omega
      clear hm
      subst hm9
      refine wp_region_quiet_below (by kernel_rfl) (by kernel_rfl) ?_
      repeat (first | go_big_quiet_step (first | (go_at_call 26; with_reducible exact Calls.regrown_of (HM _ _))))
      refine wpQuiet_nil ?_
      intro _ hw'
      obtain ⟨⟨dq, osq⟩, hw''⟩ := hw'
      subst hw''
      have J := below_regrown w22 dq osq
      generalize grow (redrawn w22 dq) osq = v3 at J ⊢
      replace K := bw_trans K J
      go_wp2_with fail
      go_ret
      exact ⟨by first | rfl | simp, K⟩
    · have hmq : mo = q := by omega
      clear hm
      subst hmq
      refine wp_region_quiet_below (by kernel_rfl) (by kernel_rfl) ?_
      repeat (first | go_big_quiet_step (first | (go_at_call 26; with_reducible exact Calls.regrown_of (HM _ _))))
      refine wpQuiet_nil ?_
      intro _ hw'
      obtain ⟨⟨dq, osq⟩, hw''⟩ := hw'
      subst hw''
      have J := below_regrown w22 dq osq
      generalize grow (redrawn w22 dq) osq = v3 at J ⊢
      replace K := bw_trans K J
      go_wp2_with fail
      go_ret
      exact ⟨by first | rfl | simp, K⟩
  · have hu1 : (u != 1) = true := by simpa using h1
    have hm := hout h1
    clear hout hinn h1
    subst hm
    go_wp2_with fail
    refine (plateIn_any _ _ n c N ch l hS (x, y) _ hPl).mono ?_
    rw [hpi]
    rintro e w23 ⟨rfl, J⟩
    replace K := bw_trans K J
    replace T := keep J T
    replace T2 := keep J T2
    replace hPl := hPl.below J
    clear J t0 t1 u0 u1
    obtain ⟨t0, t1⟩ := blk_2 T
    obtain ⟨u0, u1⟩ := blk_2 T2
    go_wp2_with fail
    refine (HL.out _ (hs0.below K) hPl).mono ?_
    rintro e w24 ⟨rfl, J⟩
    replace K := bw_trans K J
    replace T := keep J T
    replace T2 := keep J T2
    replace hPl := hPl.below J
    clear J t0 t1 u0 u1
    obtain ⟨t0, t1⟩ := blk_2 T
    obtain ⟨u0, u1⟩ := blk_2 T2
    go_wp2_with fail
    go_ret
    exact ⟨by first | rfl | simp, K⟩
end Go.Proofs.YtmdjhoknlplecaaGreatDoor
namespace Go.Proofs.YtmdjhoknlplecaaGreatDoor
open Go.ChangeShapes Go.WideShapes Go.ChangeAt Go.RowKit

theorem own : ownKnob Tryz.prog.godebug = none := by kernel_rfl
theorem laidOut : laidOutB Tryz.prog = true := by kernel_rfl
theorem gE : Tryz.prog.globalNamed "loop.example/mortiser/impl.errNoFrac" = some 0 := by kernel_rfl
theorem gEType : (Tryz.prog.globals[0]?).map (·.type) = some 93 := by kernel_rfl
theorem cellsES : Tryz.prog.cellsOf 194 = 1 := by kernel_rfl
theorem cellsStr : Tryz.prog.cellsOf 9 = 1 := by kernel_rfl
theorem star : "*" ++ "errors.errorString" = "*errors.errorString" := by decide
theorem rowES (u : TypeId) (h : Tryz.prog.typeName? 3 u = some "*errors.errorString") : u = 168 :=
  typeName_ptr_named (nm := "errors.errorString") (by rw [star]; kernel_rfl) (by kernel_rfl) (by decide) u (by rw [star]; exact h)

/-- What the list gives: the variable holds a pointer to an error of errors.New's make. -/
theorem sent_of_met {W : World} (h : laidMet Tryz.prog [("loop.example/mortiser/impl.errNoFrac", Rows.laid_loop_example_mortiser_impl_errNoFrac)] W) :
    ∃ a, W.var? Tryz.prog "loop.example/mortiser/impl.errNoFrac" = some #[.iface 168 (.pointer (some a))] ∧ Sent a W := by
  obtain ⟨a, s, hv, _, _, _⟩ := laid_sentinel h gE gEType Tryz.underlying93 rowES Tryz.underlying168 Tryz.underlying194 rfl rfl Tryz.underlying9 cellsES cellsStr
  exact ⟨a, hv, by simpa [Sent] using World.var?_cell gE hv 0⟩
theorem sent_of_laid {W : World} (h : laidMetH Tryz.prog [("loop.example/mortiser/impl.errNoFrac", Rows.laid_loop_example_mortiser_impl_errNoFrac)] W) :
    ∃ a, W.var? Tryz.prog "loop.example/mortiser/impl.errNoFrac" = some #[.iface 168 (.pointer (some a))] ∧ Sent a W := by
  rw [MakeChecks.laidMetH_plain _ _ _ (by kernel_rfl)] at h
  exact sent_of_met h

/-- The variable read again as a token. -/
theorem vars_again {H : Type} (enc : TypeId × Value → H) {X : World} {a : Addr} (hv : X.var? Tryz.prog "loop.example/mortiser/impl.errNoFrac" = some #[.iface 168 (.pointer (some a))]) (sp : Nat → Bool) :
    DataW.TrodVars enc Tryz.prog X sp ["loop.example/mortiser/impl.errNoFrac"] [tok enc (.iface 168 (.pointer (some a)))] [.cell 0 0] :=
  vars_read1 enc gE gEType Tryz.underlying93 hv trivial sp

/-- The door's own heap meets the condition. -/
theorem door_met (os : Os) (args : Array Value) : laidMetH Tryz.prog [("loop.example/mortiser/impl.errNoFrac", Rows.laid_loop_example_mortiser_impl_errNoFrac)] ((World.doorLaid Tryz.prog 28 os).forCall (fun _ _ => 0) ⟨#[], args, []⟩).memory :=
  laidMetH_of_parts3 (fuel := 8) (laidMet_of_run' 8 (by kernel_rfl) (by kernel_rfl)) (by kernel_rfl) (by kernel_rfl)
end Go.Proofs.YtmdjhoknlplecaaGreatDoor
namespace Go.Proofs.YtmdjhoknlplecaaGreatDoor
open Go.ChangeShapes Go.WideShapes Go.ChangeAt Go.RowKit Go.Joins
open Go.ChangeMaps (open_string shut_string)

set_option maxRecDepth 100000 in
theorem fnFitsMost_lifted (os : Os) (started : os.Started) (H : Type) (enc : TypeId × Value → H) :
    ReturnsInHanded {} Tryz.checked os 10 .any (fun w args => (Rows.fnFitsMostSpec.pre enc Tryz.prog Tryz.f10 [] false w args ∧ laidMetH Tryz.prog Rows.fnFitsMostRow.laid w) ∧ sizedMet enc Tryz.prog Tryz.f10 (OpenSpec.ofChange Rows.fnFitsMostSpec) false w args)
      (Rows.fnFitsMostSpec.post enc Tryz.prog Tryz.f10 false true false false) := by
  refine returnsInHanded_of_change_and (C := Tryz.checked) (X := fun w _ => laidMetH Tryz.prog Rows.fnFitsMostRow.laid w) (fun _ _ _ hh h => h.of_heap hh) own started (by kernel_rfl) Tryz.func10
    (ChangeSpec.witness_shaped (enc := enc) (C := Tryz.checked) (os := os) (X := fun w _ => laidMetH Tryz.prog Rows.fnFitsMostRow.laid w) false (World.doorLaid Tryz.prog 28 os) #[.slice none 0 0] 8 rfl (World.shaped_of_RefB (by kernel_rfl) (by kernel_rfl)) (by kernel_rfl) (by kernel_rfl) (by kernel_rfl) (door_met os _)) ?_
  intro W base args ds gs before hval0 hW _ _ hL _
  have hval : ∀ (j : Nat) t v, Tryz.f10.params[j]? = some t → args[j]? = some v → Value.okWide Tryz.prog W .any base t v := hval0
  have hW' := hW
  obtain ⟨p, q, hA0, hV, rfl, hfz, hnd⟩ := hW
  have hA : DataW.TrodAll enc Tryz.prog W 0 (fun _ => true) true Tryz.f10.params.toList args.toList ds p := hA0
  rw [Tryz.params10] at hA hval
  obtain ⟨v0, vs0, d0, ds0, p0, q0, hargs, rfl, rfl, h0, r0⟩ := trodAll_cons hA
  obtain ⟨rfl, rfl, rfl⟩ := trodAll_nil r0
  obtain rfl : args = #[v0] := by cases args; simp_all
  obtain ⟨a, hvar, hs⟩ := sent_of_laid hL
  obtain ⟨rfl, rfl⟩ := hV.unique (vars_again enc hvar _)
  have k0 := h0
  have lt0 : ∀ x ∈ p0, x.block < W.heap.size := by obtain ⟨m, hm⟩ := k0; exact DataW.trod_lt m _ _ _ hm
  obtain ⟨a0, len0, cap0, rfl⟩ := okWide_slice Tryz.underlying41 (hval 0 41 v0 rfl rfl)
  obtain ⟨z0, w0⟩ : ∃ zs, IsRow .u8 W a0 len0 cap0 zs := by
    obtain ⟨fuel, hf⟩ := h0
    rcases open_ints Tryz.underlying41 Tryz.underlying5 (by kernel_rfl) hf with ⟨hcs, _⟩ | ⟨x, l, c, zs, hcs, _, hl, hm, hz, _, hcell, hwz⟩
    · simp [Value.cells] at hcs
      obtain ⟨rfl, rfl, rfl⟩ := hcs
      exact ⟨[], .inl ⟨rfl, rfl, rfl, rfl⟩⟩
    · simp [Value.cells] at hcs
      obtain ⟨rfl, rfl, rfl⟩ := hcs
      exact ⟨zs, .inr ⟨_, rfl, hl, hm, by simpa using hz, hcell, hwz⟩⟩
  clear hA0 hval0
  refine (fitsMost_walk W a0 len0 cap0 z0 w0 a hs).mono fun e W' ⟨he, bel⟩ => ?_
  subst he
  exact ⟨_, rfl, _, _, _, [], _, [.cell 0 0], hW', trodAll_mk1 (shut_bool Tryz.underlying4 _), (trodAll_cons_mk (Below.trod laidOut (by kernel_rfl) (of_decide_eq_true (by kernel_rfl)) k0 bel lt0) trodAll_mk0), vars_again enc (var?_below bel gE hs.lt hvar) _, bel.frame _, fun h => by cases h⟩

theorem fnFitsMost_said : Rows.FnFitsMostSaid :=
  OpenClaim.holds_of_wide 10 Tryz.f10 rfl rfl rfl rfl rfl rfl rfl ⟨rfl, rfl, rfl, rfl, rfl⟩ rfl rfl rfl rfl rfl (by kernel_rfl) Tryz.func10 (by kernel_rfl)
    (of_decide_eq_true (by kernel_rfl)) (by unfold Func.isWrapper; first | (rw [if_pos (by decide +kernel)]; kernel_rfl) | (rw [if_neg (by decide +kernel)]; exact ⟨rfl, rfl⟩))
    (fun os started H enc _ => fnFitsMost_lifted os started H enc)

theorem fnFitsMost_plain (f : FuncId) (fn : Func) (hf : Tryz.pinned.checked.prog.funcNamed "loop.example/mortiser/laws.FnFitsMost" = some f) (hfn : Tryz.pinned.checked.prog.funcs[f]? = some fn) :
    true = Tryz.pinned.checked.prog.looks [] ∧ ∀ (j : Nat) t, fn.params[j]? = some t → Tryz.pinned.checked.prog.wantsStandIn t = false := by
  obtain rfl : f = 10 := Option.some.inj ((show Tryz.prog.funcNamed "loop.example/mortiser/laws.FnFitsMost" = some 10 by kernel_rfl).symm.trans hf) |>.symm
  obtain rfl : fn = Tryz.f10 := (Option.some.inj (Tryz.func10.symm.trans hfn)).symm
  refine ⟨by kernel_rfl, fun j t ht => ?_⟩
  rw [Tryz.params10] at ht
  have hm := Array.mem_of_getElem? ht
  simp only [List.mem_toArray, List.mem_cons, List.not_mem_nil, or_false] at hm
  subst hm
  exact (show Tryz.prog.wantsStandIn 41 = false by kernel_rfl)

/-- THE STATEMENT. -/
theorem fnFitsMost_card : Rows.FnFitsMostCardSaid :=
  Claim7.holds_tied_plain_at .later [] _ _ _ _ fnFitsMost_said (fun _ h => by cases h) (by kernel_rfl) (fun _ h => by cases h) fnFitsMost_row_tie rfl ⟨rfl, rfl⟩ (by kernel_rfl) rfl fnFitsMost_plain (by kernel_rfl)
end Go.Proofs.YtmdjhoknlplecaaGreatDoor
