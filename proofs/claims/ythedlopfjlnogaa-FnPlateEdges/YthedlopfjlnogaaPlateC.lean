/-
  OUR OWN TEXT. PlateOk and PlateIn, by contract, at every plate.
-/
import Derived.Test.YthedlopfjlnogaaBoard
import Derived.Test.YthedlopfjlnogaaBoxes
namespace Go.Proofs.Ythedlopfjlnogaa
open Go.RowKit Go.Sort

set_option maxRecDepth 100000 in
set_option maxHeartbeats 1000000 in
theorem plateOk_any (a ah : Option Addr) (la ca nh ch : Nat) (o : List P2) (hs : List (List P2)) (w : World) (h : Plt w a la ah nh o hs) :
    Calls Try.prog 11 #[.agg #[.slice a la ca, .slice ah nh ch]] w fun e W' => e = .returned (.bool (plV o hs)) ∧ Below w.heap.size w W' := by
  have B0 : Below w.heap.size w (w.alloc (.cells #[.slice a la ca, .slice ah nh ch] 26)) := (by repeat (first | exact bw_refl _ | assumption | apply bw_drewN | apply bw_drew | apply bw_alloc | refine bw_set ?_ (by simp) _))
  go_enter Try.func11, Try.ntmps11
  go_wp2_with fail
  refine (board_any a ah la ca nh ch o hs _ (h.below B0)).mono ?_
  rintro e w1 ⟨p, rfl, J, _⟩
  go_wp2_with fail
  go_ret
  exact ⟨rfl, bw_trans B0 J⟩
set_option maxRecDepth 100000 in
set_option maxHeartbeats 4000000 in
theorem boardIn_any (b : Nat) (o : RingT) (hs : List RingT) (p : P2) (w : World) (hR : RingL w.heap.size w (some ⟨b, 0, none⟩) (o :: hs)) (hok : ((o :: hs).all fun x => okV x.pts) = true) (hp : ptB p.1 p.2 = true) :
    Calls Try.prog 51 #[.pointer (some ⟨b, 0, none⟩), .agg #[.int .i64 p.1, .int .i64 p.2]] w fun e W' => e = .returned (.int .i64 (plI o.pts (hs.map RingT.pts) p)) ∧ Below w.heap.size w W' := by
  obtain ⟨b0, q0, t0, e0, ob, ol, oP, hR⟩ := hR
  cases e0
  rw [List.all_cons, Bool.and_eq_true] at hok
  have B0 : Below w.heap.size w (w.alloc (.cells #[.int .i64 p.1, .int .i64 p.2] 33)) := (by repeat (first | exact bw_refl _ | assumption | apply bw_drewN | apply bw_drew | apply bw_alloc | refine bw_set ?_ (by simp) _))
  obtain ⟨W, hW, BW, T⟩ : ∃ W, W = w.alloc (.cells #[.int .i64 p.1, .int .i64 p.2] 33) ∧ Below w.heap.size w W ∧ W.heap[w.heap.size]? = some (.cells #[.int .i64 p.1, .int .i64 p.2] 33) := ⟨_, rfl, (by repeat (first | exact bw_refl _ | assumption | apply bw_drewN | apply bw_drew | apply bw_alloc | refine bw_set ?_ (by simp) _)), heap_new _ _⟩
  have hpl : Hid (plI o.pts (hs.map RingT.pts) p = hs.foldl (fun s x => min s (-(inI x.pts p))) (inI o.pts p)) := by change _ = _; unfold plI; rw [List.foldl_map]
  have hall : Hid (∀ x ∈ hs, okV x.pts = true) := List.all_eq_true.1 hok.2
  have HW : Hid (∀ d os, Calls Try.prog 49 #[.slice o.a o.len o.cap, .agg #[.int .i64 p.1, .int .i64 p.2]] (grow (redrawn W d) os) fun e W' => e = .returned (.int .i64 (inI o.pts p)) ∧ Below (grow (redrawn W d) os).heap.size (grow (redrawn W d) os) W') := fun d os =>
    where_any o.a o.len o.cap o.pts p ol hok.1 hp _ ((oP.below (bw_trans BW (below_regrown W d os))).grow (bw_trans BW (below_regrown W d os)).size)
  obtain ⟨o0, o1, _, _⟩ := lies2 (ob.below BW)
  have o0' := cell_regrown o0
  obtain ⟨t0', t1'⟩ := reg_2 T
  have h3 := inI_3 o.pts p
  have hR1 := (hR.below BW (Nat.le_refl _)).grow BW.size
  have ob1 := ob.below BW
  clear o0 o1 hok
  generalize inI o.pts p = u0 at *
  go_enter Try.func51, Try.ntmps51
  go_upto_region 1 with fail
  rw [← hW]
  clear hW
  refine wp_region_quiet_below (by kernel_rfl) (by kernel_rfl) ?_
  repeat (first | go_big_quiet_step (first | (go_at_call 49; with_reducible exact Calls.regrown_of (HW.out _ _))))
  refine wpQuiet_nil ?_
  intro _ hw'
  obtain ⟨⟨dq, osq⟩, hw''⟩ := hw'
  subst hw''
  have J := below_regrown W dq osq
  generalize grow (redrawn W dq) osq = v at J ⊢
  obtain ⟨o0, o1, _, _⟩ := lies2 (ob1.below J)
  have K := bw_trans BW J
  replace T := keep J T
  have hR2 := (hR1.below J (Nat.le_refl _)).grow J.size
  clear HW t0' t1' o0' hR1 hR
  go_wp2_with fail
  go_loopw [5, 6] (fun s q wr => ∃ (u : Int) (q' : Option Addr) (rest : List RingT), s = .int .i64 u ∧ q = .pointer q' ∧ (-1 ≤ u ∧ u ≤ 1) ∧ RingL wr.heap.size wr q' rest ∧ (∀ x ∈ rest, okV x.pts = true) ∧ hs.foldl (fun s x => min s (-(inI x.pts p))) u0 = rest.foldl (fun s x => min s (-(inI x.pts p))) u ∧ Below v.heap.size v wr) (fun _ q wr => ringsLeft wr q)
  case atStart => exact ⟨u0, q0, hs, rfl, rfl, by omega, hR2, hall.out, rfl, bw_refl _⟩
  case round =>
    obtain ⟨u, q', rest, rfl, rfl, hu, hL, hak, he, hnx⟩ := hrel
    cases rest with
    | nil =>
      obtain rfl : q' = none := hL
      have e1 : Hid (plI o.pts (hs.map RingT.pts) p = u) := by change _ = _; rw [hpl.out, he]; rfl
      clear he
      go_wp2_with fail
      go_ret
      exact ⟨ret_int e1.out.symm, bw_trans K hnx⟩
    | cons y ys =>
      have hL' := hL
      obtain ⟨b1, q1, t1, rfl, hb, hlen, hP, hr⟩ := hL
      obtain ⟨d0, d1, _, _⟩ := lies2 hb
      have d0' := cell_regrown d0
      have d1' := cell_regrown d1
      obtain ⟨t0', t1'⟩ := reg_2 (keep hnx T)
      have y3 := inI_3 y.pts p
      have HW : Hid (∀ d os, Calls Try.prog 49 #[.slice y.a y.len y.cap, .agg #[.int .i64 p.1, .int .i64 p.2]] (grow (redrawn wr d) os) fun e W' => e = .returned (.int .i64 (inI y.pts p)) ∧ Below (grow (redrawn wr d) os).heap.size (grow (redrawn wr d) os) W') := fun d os =>
        where_any y.a y.len y.cap y.pts p hlen (hak y (by simp)) hp _ ((hP.below (below_regrown wr d os)).grow (below_regrown wr d os).size)
      have he1 : Hid (hs.foldl (fun s x => min s (-(inI x.pts p))) u0 = ys.foldl (fun s x => min s (-(inI x.pts p))) (min u (-(inI y.pts p)))) := he
      clear he
      generalize inI y.pts p = u1 at *
      have nu : IntKind.i64.wrap (-u1) = -u1 := wrap_small (by omega) (by omega)
      clear d0 d1
      by_cases hm : -u1 < u
      · have hmin : min u (-u1) = -u1 := by omega
        go_wp2_with fail
        refine wp_region_quiet_below (by kernel_rfl) (by kernel_rfl) ?_
        repeat (first | go_big_quiet_step (first | (go_at_call 49; with_reducible exact Calls.regrown_of (HW.out _ _))))
        refine wpQuiet_nil ?_
        intro _ hw'
        obtain ⟨⟨dq, osq⟩, hw''⟩ := hw'
        subst hw''
        have J := below_regrown wr dq osq
        generalize grow (redrawn wr dq) osq = v2 at J ⊢
        obtain ⟨d0, d1, _, _⟩ := lies2 (hb.below J)
        go_wp2_with fail
        go_roundw
        case rel => exact ⟨-u1, q1, ys, rfl, rfl, by omega, (hr.below J (Nat.le_refl _)).grow J.size, fun x hx => hak x (by simp [hx]), by rw [he1.out, hmin], bw_trans hnx J⟩
        case measure => rw [ringsLeft_eq (hr.below J (Nat.le_refl _)), ringsLeft_eq hL']; simp
      · have hmin : min u (-u1) = u := by omega
        go_wp2_with fail
        refine wp_region_quiet_below (by kernel_rfl) (by kernel_rfl) ?_
        repeat (first | go_big_quiet_step (first | (go_at_call 49; with_reducible exact Calls.regrown_of (HW.out _ _))))
        refine wpQuiet_nil ?_
        intro _ hw'
        obtain ⟨⟨dq, osq⟩, hw''⟩ := hw'
        subst hw''
        have J := below_regrown wr dq osq
        generalize grow (redrawn wr dq) osq = v2 at J ⊢
        obtain ⟨d0, d1, _, _⟩ := lies2 (hb.below J)
        go_wp2_with fail
        go_roundw
        case rel => exact ⟨u, q1, ys, rfl, rfl, by omega, (hr.below J (Nat.le_refl _)).grow J.size, fun x hx => hak x (by simp [hx]), by rw [he1.out, hmin], bw_trans hnx J⟩
        case measure => rw [ringsLeft_eq (hr.below J (Nat.le_refl _)), ringsLeft_eq hL']; simp
set_option maxRecDepth 100000 in
set_option maxHeartbeats 1000000 in
theorem plateIn_any (a ah : Option Addr) (la ca nh ch : Nat) (o : List P2) (hs : List (List P2)) (p : P2) (w : World) (h : Plt w a la ah nh o hs) :
    Calls Try.prog 17 #[.agg #[.slice a la ca, .slice ah nh ch], .agg #[.int .i64 p.1, .int .i64 p.2]] w fun e W' => e = .returned (.int .i64 (plInV o hs p)) ∧ Below w.heap.size w W' := by
  obtain ⟨W, hW, BW, TP, T⟩ := boxes2 w (.cells #[.slice a la ca, .slice ah nh ch] 26) (.cells #[.int .i64 p.1, .int .i64 p.2] 33)
  have hh := h.below BW
  obtain ⟨t0, t1⟩ := blk_2 TP
  have zP := blk_lt TP
  cases hv : plV o hs
  · have e1 : Hid (plInV o hs p = -1) := by change _ = _; unfold plInV; rw [hv]; rfl
    go_enter Try.func17, Try.ntmps17
    go_upto_region 1 with fail
    rw [← hW]
    clear hW
    go_wp2_with fail
    refine (board_any a ah la ca nh ch o hs _ hh).mono ?_
    rw [hv]
    rintro e w1 ⟨q, rfl, J, _⟩
    go_wp2_with fail
    go_ret
    exact ⟨ret_int e1.out.symm, bw_trans BW J⟩
  cases hp : ptB p.1 p.2
  · have e1 : Hid (plInV o hs p = -1) := by change _ = _; unfold plInV; rw [hv, hp]; rfl
    go_enter Try.func17, Try.ntmps17
    go_upto_region 1 with fail
    rw [← hW]
    clear hW
    go_wp2_with fail
    refine (board_any a ah la ca nh ch o hs _ hh).mono ?_
    rw [hv]
    rintro e w1 ⟨q, rfl, J, _⟩
    replace T := keep J T
    clear t0 t1
    obtain ⟨t0, t1⟩ := blk_2 T
    go_wp2_with fail
    refine (pt_raw p _).mono ?_
    rw [hp]
    rintro e w2 ⟨rfl, J2⟩
    go_wp2_with fail
    go_ret
    exact ⟨ret_int e1.out.symm, bw_trans (bw_trans BW J) J2⟩
  · have e1 : Hid (plInV o hs p = plI o hs p) := by change _ = _; unfold plInV; rw [hv, hp]; rfl
    have L := (plV_iff o hs).1 hv
    go_enter Try.func17, Try.ntmps17
    go_upto_region 1 with fail
    rw [← hW]
    clear hW
    go_wp2_with fail
    refine (board_any a ah la ca nh ch o hs _ hh).mono ?_
    rintro e w1 ⟨q, rfl, J, hR⟩
    obtain ⟨b, xs, rfl, hR, hx⟩ := hR hv
    rw [hv]
    replace T := keep J T
    clear t0 t1
    obtain ⟨t0, t1⟩ := blk_2 T
    go_wp2_with fail
    refine (pt_raw p _).mono ?_
    rw [hp]
    rintro e w2 ⟨rfl, J2⟩
    replace T := keep J2 T
    clear t0 t1
    obtain ⟨t0, t1⟩ := blk_2 T
    have hall : ((⟨a, la, ca, o⟩ :: xs : List RingT).all fun x => okV x.pts) = true := by
      rw [List.all_eq_true]
      intro x hx'
      rcases List.mem_cons.1 hx' with e | e
      · subst e; exact L.out
      · exact L.ok _ (by rw [← hx]; exact List.mem_map.2 ⟨x, e, rfl⟩)
    go_wp2_with fail
    refine (boardIn_any b ⟨a, la, ca, o⟩ xs p w2 ((hR.below J2 (Nat.le_refl _)).grow J2.size) hall hp).mono ?_
    rw [hx]
    rintro e w3 ⟨rfl, J3⟩
    go_wp2_with fail
    go_ret
    exact ⟨ret_int e1.out.symm, bw_trans (bw_trans (bw_trans BW J) J2) J3⟩
end Go.Proofs.Ythedlopfjlnogaa
