/-
  OUR OWN TEXT. A plate on the other side, by contract.
-/
import Derived.Test.YthedlopfjlnogaaDrawPlate3
import Derived.Test.YthedlopfjlnogaaLuL
import Derived.Test.YthedlopfjlnogaaLPlateHoles
namespace Go.Proofs.Ythedlopfjlnogaa
open Go.RowKit Go.Sort

/-- A loop in our own memory. -/
def LoopT.in (W : World) (t : LoopT) : Prop := 3 ≤ t.n ∧ t.n ≤ 8 ∧ t.l.length = t.n ∧ PtBlk W t.g t.c t.l t.n
theorem LoopT.ok.in {base : Nat} {W : World} {t : LoopT} (h : t.ok base W) : t.in W := ⟨h.1, h.2.1, h.2.2.1, h.2.2.2.2.2.2⟩
theorem LoopT.in.below {W W' : World} {t : LoopT} (h : t.in W) (J : Below W.heap.size W W') : t.in W' := ⟨h.1, h.2.1, h.2.2.1, h.2.2.2.below J⟩
theorem LoopT.in.only {r : Nat} {W W' : World} {t : LoopT} (h : t.in W) (O : Only r W W') (hr : t.g ≠ r) : t.in W' := ⟨h.1, h.2.1, h.2.2.1, blk_only h.2.2.2 O hr⟩
theorem LoopT.in.grown {W W' : World} {t : LoopT} {row : Option Nat} (h : t.in W) (hg : W.grownBy W' row) (hne : some t.g ≠ row) : t.in W' := ⟨h.1, h.2.1, h.2.2.1, blk_grown h.2.2.2 hg hne⟩
theorem LoopT.in.ne_own {W : World} {t : LoopT} {base n : Nat} {v : Value} {xs : List Value} (h : t.in W) (ho : W.ownsRow base 23 1 v n xs) : some t.g ≠ v.ownBlock := by
  intro e
  rcases ho.2 with ⟨e1, e2⟩ | ⟨g', c', cur', e1, hb, hg, _⟩
  · subst e1; simp [Value.ownBlock] at e
  · subst e1
    obtain ⟨cur, hc, _⟩ := h.2.2.2
    have e' : t.g = g' := Option.some.inj e
    rw [e', hg] at hc; simp at hc
theorem LoopT.in.ne_box {W : World} {t : LoopT} {b : Nat} {cs : Array Value} (h : t.in W) (hL : Lies b cs 26 W) : t.g ≠ b := by
  intro e
  obtain ⟨cur, hc, _⟩ := h.2.2.2
  unfold Lies at hL
  rw [e, hL] at hc; simp at hc
theorem own_ne_box {W : World} {b base n : Nat} {cs : Array Value} {v : Value} {xs : List Value} (ho : W.ownsRow base 23 1 v n xs) (hL : Lies b cs 26 W) : v.ownBlock ≠ some b := by
  intro e
  rcases ho.2 with ⟨e1, e2⟩ | ⟨g', c', cur', e1, hb, hg, _⟩
  · subst e1; simp [Value.ownBlock] at e
  · subst e1
    have e' : g' = b := Option.some.inj e
    unfold Lies at hL
    rw [e', hL] at hg; simp at hg
/-- A plate of loops in our own memory. -/
def PlN (base : Nat) (W : World) (o : LoopT) (hv : Value) (hs : List LoopT) : Prop := o.in W ∧ W.ownsRow base 23 1 hv hs.length (hs.map LoopT.v) ∧ ∀ t ∈ hs, t.in W
theorem PlN.below {base : Nat} {W W' : World} {o : LoopT} {hv : Value} {hs : List LoopT} (h : PlN base W o hv hs) (J : Below W.heap.size W W') : PlN base W' o hv hs := ⟨h.1.below J, own_below h.2.1 J, fun t ht => (h.2.2 t ht).below J⟩
theorem PlN.only {base r : Nat} {W W' : World} {o : LoopT} {hv : Value} {hs : List LoopT} (h : PlN base W o hv hs) (O : Only r W W') (ho : o.g ≠ r) (hr : hv.ownBlock ≠ some r) (ht : ∀ t ∈ hs, t.g ≠ r) : PlN base W' o hv hs := ⟨h.1.only O ho, own_only' h.2.1 O hr, fun t hh => (h.2.2 t hh).only O (ht t hh)⟩
theorem PlN.mono {base base' : Nat} {W : World} {o : LoopT} {hv : Value} {hs : List LoopT} (h : PlN base W o hv hs) (hb : base' ≤ base) : PlN base' W o hv hs := ⟨h.1, own_mono h.2.1 hb, h.2.2⟩
theorem PlN.plt {base : Nat} {W : World} {o : LoopT} {hv : Value} {hs : List LoopT} (h : PlN base W o hv hs) : ∃ ah ch, hv = .slice ah hs.length ch ∧ Plt W (some ⟨o.g, 0, none⟩) o.n ah hs.length o.l (hs.map LoopT.l) := by
  obtain ⟨⟨h1, h2, h3, h7⟩, hr, ht⟩ := h
  rcases hr.2 with ⟨e1, e2⟩ | ⟨gh, ch, cur, e1, hb, hg, _⟩
  · obtain rfl : hs = [] := List.eq_nil_of_length_eq_zero e2
    exact ⟨none, 0, e1, by omega, blk_pts h7 h3, rfl, fun _ => none, fun _ => 0, fun _ => 0, .inl rfl, fun j hj => by simp at hj⟩
  · subst e1
    refine ⟨_, _, rfl, by omega, blk_pts h7 h3, by simp, fun j => some ⟨(hs[j]?.map LoopT.g).getD 0, 0, none⟩, fun j => (hs[j]?.map LoopT.n).getD 0, fun j => (hs[j]?.map LoopT.c).getD 0, .inr ⟨gh, 0, rfl, (hr.lt gh rfl).2, fun j hj => ?_⟩, fun j hj => ?_⟩
    · have := own_news hr (j := j) (u := (hs[j]).v) (by simp [hj])
      simp only [List.getElem?_eq_getElem hj, Option.map_some, Option.getD_some]
      rw [show ((⟨gh, 0, none⟩ : Addr).add j) = ⟨gh, j, none⟩ by unfold Addr.add; split <;> simp_all] at this
      rw [Nat.zero_add]; exact this
    · obtain ⟨k1, k2, k3, k7⟩ := ht hs[j] (List.getElem_mem hj)
      simp only [List.getElem?_map, List.getElem?_eq_getElem hj, Option.map_some, Option.getD_some]
      exact ⟨by omega, blk_pts k7 k3⟩
set_option maxRecDepth 100000 in
set_option maxHeartbeats 8000000 in
theorem luPlate_ok (f : P2 → P2) (sw : Bool) (base : Nat) (o : LoopT) (gh ch : Nat) (hs : List LoopT) (w : World) (hD : PlD base w o (.slice (some ⟨gh, 0, none⟩) hs.length ch) hs)
    (hf : ∀ t, t = o ∨ t ∈ hs → ∀ i, i < t.n → ∀ w, Calls Try.prog 80 #[.agg #[.int .i64 (ptAt t.l i).1, .int .i64 (ptAt t.l i).2], .bool sw] w fun e w' => e = .returned (.agg #[.int .i64 (f (ptAt t.l i)).1, .int .i64 (f (ptAt t.l i)).2]) ∧ Below w.heap.size w w') :
    Calls Try.prog 14 #[.agg #[o.v, .slice (some ⟨gh, 0, none⟩) hs.length ch], .bool sw] w fun e w' => ∃ (o' : LoopT) (hv : Value) (hs' : List LoopT), e = .returned (.agg #[o'.v, hv]) ∧ PlN w.heap.size w' o' hv hs' ∧ o'.l = o.l.map f ∧ hs'.map LoopT.l = hs.map (fun t => t.l.map f) ∧ Below w.heap.size w w' := by
  obtain ⟨i0, hi0, hz0, hz1, hz2⟩ := info_parts Try.infoPts
  have hmx : Try.prog.follows .mixedOrders = true := by kernel_rfl
  have hfo := hf o (.inl rfl)
  have HF : Hid (∀ t, t ∈ hs → ∀ i, i < t.n → ∀ w, Calls Try.prog 80 #[.agg #[.int .i64 (ptAt t.l i).1, .int .i64 (ptAt t.l i).2], .bool sw] w fun e w' => e = .returned (.agg #[.int .i64 (f (ptAt t.l i)).1, .int .i64 (f (ptAt t.l i)).2]) ∧ Below w.heap.size w w') := fun t ht => hf t (.inr ht)
  clear hf
  obtain ⟨g, n, c, l⟩ := o
  obtain ⟨W, hW, BW, T, Z⟩ := boxes2 w (.cells #[.slice (some ⟨g, 0, none⟩) n c, .slice (some ⟨gh, 0, none⟩) hs.length ch] 26) (.cells #[.slice none 0 0, .slice none 0 0] 26)
  have hDW := hD.below BW
  obtain ⟨o1, o2, o3, o4, o5, o6, o7⟩ := hDW.1
  show Calls Try.prog 14 #[.agg #[.slice (some ⟨g, 0, none⟩) n c, .slice (some ⟨gh, 0, none⟩) hs.length ch], .bool sw] w _
  go_enter Try.func14, Try.ntmps14
  go_wp2_with fail
  rw [← hW]
  clear hW
  refine (luOver_ok f sw g n c l _ hfo o7 o3 (by show 1 ≤ n; have : 3 ≤ n := o1; omega) (by show n ≤ 100; have : n ≤ 8 := o2; omega)).mono ?_
  have o3' : l.length = n := o3
  have o1' : 3 ≤ n := o1
  have o2' : n ≤ 8 := o2
  have hln : (l.map f).length = n := by simp [o3']
  rintro e w1 ⟨g1, c1, rfl, hb1, J1⟩
  rw [hln] at hb1
  rw [hln]
  have K1 := bw_trans BW J1
  replace T := keep J1 T
  replace Z := keep J1 Z
  have hD1 := hDW.below J1
  have zT := blk_lt T
  have zZ := blk_lt Z
  have zg1 := hb1.lt
  have Bq : Below w1.heap.size w1 (w1.alloc (.cells #[.slice (some ⟨g1, 0, none⟩) n c1, .slice none 0 0] 26)) := (by repeat (first | exact bw_refl _ | assumption | apply bw_drewN | apply bw_drew | apply bw_alloc | refine bw_set ?_ (by simp) _))
  have Lp : Lies w1.heap.size #[.slice (some ⟨g1, 0, none⟩) n c1, .slice none 0 0] 26 (w1.alloc (.cells #[.slice (some ⟨g1, 0, none⟩) n c1, .slice none 0 0] 26)) := Lies.new w1 _ _
  have hN0 : PlN w1.heap.size (w1.alloc (.cells #[.slice (some ⟨g1, 0, none⟩) n c1, .slice none 0 0] 26)) ⟨g1, n, c1, l.map f⟩ (.slice none 0 0) [] := ⟨LoopT.in.below ⟨o1', o2', hln, hb1⟩ Bq, ⟨rfl, .inl ⟨rfl, rfl⟩⟩, fun t ht => by simp at ht⟩
  have hghw : gh < w.heap.size := (hD.2.2.1.lt gh rfl).2
  clear BW J1 hDW hD o7
  go_wp2_with fail
  go_loopw [6] (fun i wr => ∃ (k : Nat) (hv : Value) (hs' : List LoopT), k ≤ hs.length ∧ i = .int .i64 k ∧ Lies w1.heap.size #[.slice (some ⟨g1, 0, none⟩) n c1, hv] 26 wr ∧ PlN w1.heap.size wr ⟨g1, n, c1, l.map f⟩ hv hs' ∧ hs'.length = k ∧ hs'.map LoopT.l = (hs.take k).map (fun t => t.l.map f) ∧ Below w1.heap.size w1 wr) (fun i _ => hs.length - (intOf i).toNat)
  case atStart => exact ⟨0, _, [], Nat.zero_le _, rfl, Lp, hN0, rfl, rfl, Bq⟩
  case round =>
    obtain ⟨k, hv, hs', hk, rfl, Lo, hN, hkl, hmap, hnx⟩ := hrel
    have T2 := keep hnx T
    have Z2 := keep hnx Z
    obtain ⟨t0, t1⟩ := blk_2 T2
    have K2 := bw_trans K1 hnx
    by_cases hlt : k < hs.length
    case neg =>
      obtain rfl : k = hs.length := by omega
      rw [List.take_of_length_le (Nat.le_refl _)] at hmap
      obtain ⟨d0, d1, _, _⟩ := lies2 Lo
      obtain ⟨y0, y1, f0, f1⟩ := lies2 (b := w.heap.size + 1) Z2
      obtain ⟨ah, ch', rfl⟩ : ∃ ah ch', hv = .slice ah hs.length ch' := by have := own_slice hN.2.1; rwa [hkl] at this
      have Z3 := setB2 (u0 := .slice (some ⟨g1, 0, none⟩) n c1) (u1 := .slice ah hs.length ch') Z2
      obtain ⟨v0, v1, _, _⟩ := blk2 Z3
      go_wp2_with fail
      refine bodyPost_ret (v := .agg #[.slice (some ⟨g1, 0, none⟩) n c1, .slice ah hs.length ch']) (by simp [results, Try.results14, go_sem, v0, v1]) rfl ?_
      have Q1 : Only (w.heap.size + 1) wr ((wr.setCell ⟨w.heap.size + 1, 0, none⟩ (.slice (some ⟨g1, 0, none⟩) n c1)).setCell ⟨w.heap.size + 1, 1, none⟩ (.slice ah hs.length ch')) := ((Only.refl (w.heap.size + 1) wr).set (.inl rfl) _).set (.inl rfl) _
      have hne : ∀ t : LoopT, t.in wr → t.g ≠ w.heap.size + 1 := fun t ht => ht.ne_box (cs := #[.slice none 0 0, .slice none 0 0]) Z2
      refine ⟨⟨g1, n, c1, l.map f⟩, _, hs', rfl, (hN.only Q1 (hne _ hN.1) ?_ (fun t ht => hne t (hN.2.2 t ht))).mono (by omega), rfl, hmap, (K2.setCell (p := ⟨w.heap.size + 1, 0, none⟩) (Nat.le_succ _) _).setCell (p := ⟨w.heap.size + 1, 1, none⟩) (Nat.le_succ _) _⟩
      exact own_ne_box hN.2.1 (cs := #[.slice none 0 0, .slice none 0 0]) Z2
    case pos =>
      obtain ⟨gt, nt, ct, lt, ht1, ht2, htc, nt3, nt8, htl, htb⟩ := (hD1.below hnx).hole hlt
      have i0' : (0 : Int) ≤ (k : Int) := Int.natCast_nonneg _
      have i1' : (k : Int) < (hs.length : Int) := by omega
      have hcall := luOver_ok f sw gt nt ct lt wr.drew (HF.out ⟨gt, nt, ct, lt⟩ (List.mem_of_getElem? ht1)) (htb.below (bw_drew (bw_refl _))) htl (by omega) (by omega)
      obtain ⟨d0, d1, f0, f1⟩ := lies2 Lo
      obtain ⟨d0, d1, f0, f1⟩ := lies2 Lo
      obtain ⟨d0, d1, f0, f1⟩ := lies2 Lo
      obtain ⟨d0, d1, f0, f1⟩ := lies2 Lo
      obtain ⟨d0, d1, f0, f1⟩ := lies2 Lo
      have hkk : hs'.length ≤ 4 := by rw [hkl]; have := hD1.2.1; omega
      obtain ⟨d0, d1, f0, f1⟩ := lies2 Lo
      have hmax : hs'.length + 1 ≤ maxLen := by simp [maxLen]; omega
      have hlt3 : (lt.map f).length = nt := by simp [htl]
      have zPB : w.heap.size < wr.heap.size := blk_lt T2
      have zGHw : gh < w.heap.size := hghw
      have zGH : gh < wr.heap.size := by omega
      have zw1 := hnx.size
      have k4 : (k : Int) ≤ 4 := by have := hD1.2.1; omega
      have Hkl : Hid (hs'.length = k) := hkl
      clear t0 hkl
      go_wp2_with fail
      refine wp_region_held (S := (fun w' : World => w'.cell? ⟨w.heap.size, 1, none⟩ = some (.slice (some ⟨gh, 0, none⟩) hs.length ch) ∧ w'.cell? ⟨gh, k, none⟩ = some (.slice (some ⟨gt, 0, none⟩) nt ct))) hmx ?_
      have hS0 : (fun w' : World => w'.cell? ⟨w.heap.size, 1, none⟩ = some (.slice (some ⟨gh, 0, none⟩) hs.length ch) ∧ w'.cell? ⟨gh, k, none⟩ = some (.slice (some ⟨gt, 0, none⟩) nt ct)) wr.drew := ⟨t1, htc⟩
      refine wpAnyH_take (i := 0) (v := .pointer (some ⟨w1.heap.size, 1, none⟩)) rfl (by kernel_rfl) (by kernel_rfl) (by kernel_rfl) (fun _ _ _ h => h) (Or.inl ⟨by rfl, by rintro w' ⟨s1, s2⟩; go_simp⟩) hS0 ?_
      refine wpAnyH_take (i := 2) (v := .pointer (some ⟨w.heap.size, 1, none⟩)) rfl (by kernel_rfl) (by kernel_rfl) (by kernel_rfl) (fun _ _ _ h => h) (Or.inl ⟨by rfl, by rintro w' ⟨s1, s2⟩; go_simp⟩) hS0 ?_
      refine wpAnyH_take (i := 4) (v := .int .i64 (k : Int)) rfl (by kernel_rfl) (by kernel_rfl) (by kernel_rfl) (fun _ _ _ h => h) (Or.inl ⟨by rfl, by rintro w' ⟨s1, s2⟩; go_simp⟩) hS0 ?_
      refine wpAnyH_take (i := 7) (v := .bool sw) rfl (by kernel_rfl) (by kernel_rfl) (by kernel_rfl) (fun _ _ _ h => h) (Or.inl ⟨by rfl, by rintro w' ⟨s1, s2⟩; go_simp⟩) hS0 ?_
      refine wpAnyH_take (i := 3) (v := .slice (some ⟨gh, 0, none⟩) hs.length ch) rfl (by kernel_rfl) (by kernel_rfl) (by kernel_rfl) (fun _ _ _ h => h) (Or.inl ⟨by rfl, by rintro w' ⟨s1, s2⟩; go_simp⟩) hS0 ?_
      refine wpAnyH_take (i := 5) (v := .pointer (some ⟨gh, k, none⟩)) rfl (by kernel_rfl) (by kernel_rfl) (by kernel_rfl) (fun _ _ _ h => h) (Or.inl ⟨by rfl, by rintro w' ⟨s1, s2⟩; go_simp⟩) hS0 ?_
      refine wpAnyH_take (i := 6) (v := .slice (some ⟨gt, 0, none⟩) nt ct) rfl (by kernel_rfl) (by kernel_rfl) (by kernel_rfl) (fun _ _ _ h => h) (Or.inl ⟨by rfl, by rintro w' ⟨s1, s2⟩; go_simp⟩) hS0 ?_
      refine wpAnyH_all (rs := [1, 8]) (by kernel_rfl) (by simp) ?_
      intro i hi
      have hi' : i = 1 ∨ i = 8 := by simpa using hi
      clear hi
      rcases hi' with rfl | rfl
      · skip
        refine YieldsIf.wpOp (S := fun w' => w' = wr.drew) (v := hv) rfl (Or.inl ⟨by rfl, by rintro w' rfl; go_simp⟩) rfl ⟨hS0, ?_⟩
        refine wpAnyH_all (rs := [8]) (by kernel_rfl) (by simp) ?_
        intro i hi
        obtain rfl : i = 8 := by simpa using hi
        refine wpOp_now rfl (by rfl) ?_
        go_simp
        refine hcall.mono ?_
        rintro e w3 ⟨g3, c3, rfl, hb3, J3⟩
        obtain ⟨n3, l3, hn3, hl3, hin3⟩ : ∃ n3 l3, (lt.map f).length = n3 ∧ lt.map f = l3 ∧ LoopT.in w3 ⟨g3, n3, c3, l3⟩ := ⟨nt, lt.map f, hlt3, rfl, nt3, nt8, hlt3, by rw [hlt3] at hb3; exact hb3⟩
        rw [hn3]
        have PB3 := (show Lies w.heap.size #[.slice (some ⟨g, 0, none⟩) n c, .slice (some ⟨gh, 0, none⟩) hs.length ch] 26 wr.drew from T2).below J3
        have Lo3 := (show Lies w1.heap.size #[.slice (some ⟨g1, 0, none⟩) n c1, hv] 26 wr.drew from Lo).below J3
        have hN3 := (show PlN w1.heap.size wr.drew ⟨g1, n, c1, l.map f⟩ hv hs' from hN.below (bw_drew (bw_refl _))).below J3
        have hS3 : (fun w' : World => w'.cell? ⟨w.heap.size, 1, none⟩ = some (.slice (some ⟨gh, 0, none⟩) hs.length ch) ∧ w'.cell? ⟨gh, k, none⟩ = some (.slice (some ⟨gt, 0, none⟩) nt ct)) w3 := ⟨(J3.cell (p := ⟨w.heap.size, 1, none⟩) zPB).trans t1, (J3.cell (p := ⟨gh, k, none⟩) zGH).trans htc⟩
        obtain ⟨d03, d13, f03, f13⟩ := lies2 Lo3
        have zo3 := Lo3.lt
        have zwr3 := J3.size
        refine ⟨hS3, ?_⟩
        refine wpAnyH_all (rs := [9]) (by kernel_rfl) (by simp) ?_
        intro i hi
        obtain rfl : i = 9 := by simpa using hi
        have B34 : Below w3.heap.size w3 (w3.alloc (.cells #[.slice (some ⟨g3, 0, none⟩) n3 c3] 23)) := (by repeat (first | exact bw_refl _ | assumption | apply bw_drewN | apply bw_drew | apply bw_alloc | refine bw_set ?_ (by simp) _))
        have hS4 : (fun w' : World => w'.cell? ⟨w.heap.size, 1, none⟩ = some (.slice (some ⟨gh, 0, none⟩) hs.length ch) ∧ w'.cell? ⟨gh, k, none⟩ = some (.slice (some ⟨gt, 0, none⟩) nt ct)) (w3.alloc (.cells #[.slice (some ⟨g3, 0, none⟩) n3 c3] 23)) := ⟨(B34.cell (p := ⟨w.heap.size, 1, none⟩) (show w.heap.size < w3.heap.size by omega)).trans hS3.1, (B34.cell (p := ⟨gh, k, none⟩) (show gh < w3.heap.size by omega)).trans hS3.2⟩
        refine wpOp_now rfl (by rfl) ?_
        go_simp
        refine wpAnyH_all (rs := [10]) (by kernel_rfl) (by simp) ?_
        intro i hi
        obtain rfl : i = 10 := by simpa using hi
        refine wpOp_now rfl (by rfl) ?_
        refine wp_append_lies _ _ _ _ (by rfl) w1.heap.size 23 i0 _ 1 24 Try.underlying24 hi0 hz0 hz1 hz2 rfl (by omega) _ hs'.length _ (by rfl) (hN3.2.1.alloc _) ⟨w3.heap.size, 0, none⟩ 1 1 [.slice (some ⟨g3, 0, none⟩) n3 c3] (by rfl) (by rfl) (World.news_of_block (cs := #[.slice (some ⟨g3, 0, none⟩) n3 c3]) (t := 23) (fr := (0, 0)) (heap_alloc_new w3 _)) (by simp [Value.oneCell']) (by omega) hmax (by omega) (by simp; omega) (w3.heap.size + 1) (by simp) ?_
        intro gg cg w5 hown5 hgr5 hat5 hlt5
        have Lo5 := lies_grown (Lo3.alloc _) hgr5 (fun e => own_ne_box hN3.2.1 Lo3 e.symm)
        have hS5 : (fun w' : World => w'.cell? ⟨w.heap.size, 1, none⟩ = some (.slice (some ⟨gh, 0, none⟩) hs.length ch) ∧ w'.cell? ⟨gh, k, none⟩ = some (.slice (some ⟨gt, 0, none⟩) nt ct)) w5 := ⟨(World.cell?_of_block (a := ⟨w.heap.size, 1, none⟩) (hgr5.block w.heap.size (by simp; omega) (fun e => own_ne_box hN3.2.1 PB3 e.symm))).trans hS4.1, (World.cell?_of_block (a := ⟨gh, k, none⟩) (hgr5.block gh (by simp; omega) (fun e => by have := (hN3.2.1.lt _ e.symm).1; omega))).trans hS4.2⟩
        refine ⟨hS5, ?_⟩
        simp only [Act.put, List.setIfInBounds_toArray]
        refine wpAnyH_take (i := 11) (v := .pointer (some ⟨w1.heap.size, 1, none⟩)) rfl (by kernel_rfl) (by kernel_rfl) (by kernel_rfl) (fun _ _ _ h => h) (Or.inl ⟨by rfl, by rintro w' ⟨s1, s2⟩; go_simp⟩) hS5 ?_
        refine wpAnyH_all (rs := [12]) (by kernel_rfl) (by simp) ?_
        intro i hi
        obtain rfl : i = 12 := by simpa using hi
        obtain ⟨d05, d15, f05, f15⟩ := lies2 Lo5
        have O5 : Only w1.heap.size w5 (w5.setCell ⟨w1.heap.size, 1, none⟩ (.slice (some ⟨gg, 0, none⟩) (hs'.length + 1) cg)) := (Only.refl (w1.heap.size) w5).set (p := ⟨w1.heap.size, 1, none⟩) (.inl rfl) _
        have hggn : gg ≠ w1.heap.size := fun e => own_ne_box hown5 Lo5 (by rw [← e]; rfl)
        have hS6 : (fun w' : World => w'.cell? ⟨w.heap.size, 1, none⟩ = some (.slice (some ⟨gh, 0, none⟩) hs.length ch) ∧ w'.cell? ⟨gh, k, none⟩ = some (.slice (some ⟨gt, 0, none⟩) nt ct)) (w5.setCell ⟨w1.heap.size, 1, none⟩ (.slice (some ⟨gg, 0, none⟩) (hs'.length + 1) cg)) := ⟨(World.cell?_of_block (a := ⟨w.heap.size, 1, none⟩) (O5.block w.heap.size (by omega) (by have := hgr5.size; simp at this; omega))).trans hS5.1, (World.cell?_of_block (a := ⟨gh, k, none⟩) (O5.block gh (by omega) (by have := hgr5.size; simp at this; omega))).trans hS5.2⟩
        refine wpOp_now rfl (by rfl) ?_
        go_simp
        refine wpAnyH_done (by kernel_rfl) ?_ _
        simp only [Exit.then, Exit.inBlock]
        have keep5 : ∀ t : LoopT, t.in w3 → t.in (w5.setCell ⟨w1.heap.size, 1, none⟩ (.slice (some ⟨gg, 0, none⟩) (hs'.length + 1) cg)) := fun t ht => by
          have h5 := (ht.below B34).grown hgr5 (ht.ne_own hN3.2.1)
          exact h5.only O5 (h5.ne_box Lo5)
        have hr5 := own_only' hown5 O5 (fun e => hggn (Option.some.inj e))
        have hN4 : PlN w1.heap.size (w5.setCell ⟨w1.heap.size, 1, none⟩ (.slice (some ⟨gg, 0, none⟩) (hs'.length + 1) cg)) ⟨g1, n, c1, l.map f⟩ (.slice (some ⟨gg, 0, none⟩) (hs'.length + 1) cg) (hs' ++ [(⟨g3, n3, c3, l3⟩ : LoopT)]) := by
          refine ⟨keep5 _ hN3.1, by simpa [LoopT.v] using hr5, fun t ht => ?_⟩
          rcases List.mem_append.1 ht with h | h
          · exact keep5 t (hN3.2.2 t h)
          · obtain rfl : t = ⟨g3, n3, c3, l3⟩ := by simpa using h
            exact keep5 _ hin3
        have L4 := lies_set1 (z := .slice (some ⟨gg, 0, none⟩) (hs'.length + 1) cg) Lo5
        have J5 := (((bw_trans hnx.drew J3).alloc (by omega) (.cells #[.slice (some ⟨g3, 0, none⟩) n3 c3] 23)).grown hgr5 (by simp; omega) (fun j e => by have := (hN3.2.1.lt j e).1; omega)).setCell (p := ⟨w1.heap.size, 1, none⟩) (Nat.le_refl _) (.slice (some ⟨gg, 0, none⟩) (hs'.length + 1) cg)
        clear hown5 hgr5 hat5 hlt5 keep5 hr5 O5 hN3 Lo3 Lo5 d03 d13 f03 f13 d05 d15 f05 f15 B34 hS3 hS4 hS5 hS6
        generalize w5.setCell ⟨w1.heap.size, 1, none⟩ (.slice (some ⟨gg, 0, none⟩) (hs'.length + 1) cg) = x4 at *
        obtain ⟨d0, d1, f0, f1⟩ := lies2 L4
        go_wp2_with fail
        go_roundw
        case rel =>
          refine ⟨k + 1, _, hs' ++ [(⟨g3, n3, c3, l3⟩ : LoopT)], by omega, by simp, L4, hN4, by simp [Hkl.out], ?_, J5⟩
          rw [List.map_append, hmap, List.take_add_one, ht1]
          simp [← hl3]
        case measure => simp [intOf]; omega
      · skip
        refine wpOp_now rfl (by rfl) ?_
        go_simp
        refine hcall.mono ?_
        rintro e w3 ⟨g3, c3, rfl, hb3, J3⟩
        obtain ⟨n3, l3, hn3, hl3, hin3⟩ : ∃ n3 l3, (lt.map f).length = n3 ∧ lt.map f = l3 ∧ LoopT.in w3 ⟨g3, n3, c3, l3⟩ := ⟨nt, lt.map f, hlt3, rfl, nt3, nt8, hlt3, by rw [hlt3] at hb3; exact hb3⟩
        rw [hn3]
        have PB3 := (show Lies w.heap.size #[.slice (some ⟨g, 0, none⟩) n c, .slice (some ⟨gh, 0, none⟩) hs.length ch] 26 wr.drew from T2).below J3
        have Lo3 := (show Lies w1.heap.size #[.slice (some ⟨g1, 0, none⟩) n c1, hv] 26 wr.drew from Lo).below J3
        have hN3 := (show PlN w1.heap.size wr.drew ⟨g1, n, c1, l.map f⟩ hv hs' from hN.below (bw_drew (bw_refl _))).below J3
        have hS3 : (fun w' : World => w'.cell? ⟨w.heap.size, 1, none⟩ = some (.slice (some ⟨gh, 0, none⟩) hs.length ch) ∧ w'.cell? ⟨gh, k, none⟩ = some (.slice (some ⟨gt, 0, none⟩) nt ct)) w3 := ⟨(J3.cell (p := ⟨w.heap.size, 1, none⟩) zPB).trans t1, (J3.cell (p := ⟨gh, k, none⟩) zGH).trans htc⟩
        obtain ⟨d03, d13, f03, f13⟩ := lies2 Lo3
        have zo3 := Lo3.lt
        have zwr3 := J3.size
        refine ⟨hS3, ?_⟩
        refine wpAnyH_all (rs := [1, 9]) (by kernel_rfl) (by simp) ?_
        intro i hi
        have hi' : i = 1 ∨ i = 9 := by simpa using hi
        clear hi
        rcases hi' with rfl | rfl
        · skip
          refine YieldsIf.wpOp (S := fun w' => w' = w3) (v := hv) rfl (Or.inl ⟨by rfl, by rintro w' rfl; go_simp⟩) rfl ⟨hS3, ?_⟩
          refine wpAnyH_all (rs := [9]) (by kernel_rfl) (by simp) ?_
          intro i hi
          obtain rfl : i = 9 := by simpa using hi
          have B34 : Below w3.heap.size w3 (w3.alloc (.cells #[.slice (some ⟨g3, 0, none⟩) n3 c3] 23)) := (by repeat (first | exact bw_refl _ | assumption | apply bw_drewN | apply bw_drew | apply bw_alloc | refine bw_set ?_ (by simp) _))
          have hS4 : (fun w' : World => w'.cell? ⟨w.heap.size, 1, none⟩ = some (.slice (some ⟨gh, 0, none⟩) hs.length ch) ∧ w'.cell? ⟨gh, k, none⟩ = some (.slice (some ⟨gt, 0, none⟩) nt ct)) (w3.alloc (.cells #[.slice (some ⟨g3, 0, none⟩) n3 c3] 23)) := ⟨(B34.cell (p := ⟨w.heap.size, 1, none⟩) (show w.heap.size < w3.heap.size by omega)).trans hS3.1, (B34.cell (p := ⟨gh, k, none⟩) (show gh < w3.heap.size by omega)).trans hS3.2⟩
          refine wpOp_now rfl (by rfl) ?_
          go_simp
          refine wpAnyH_all (rs := [10]) (by kernel_rfl) (by simp) ?_
          intro i hi
          obtain rfl : i = 10 := by simpa using hi
          refine wpOp_now rfl (by rfl) ?_
          refine wp_append_lies _ _ _ _ (by rfl) w1.heap.size 23 i0 _ 1 24 Try.underlying24 hi0 hz0 hz1 hz2 rfl (by omega) _ hs'.length _ (by rfl) (hN3.2.1.alloc _) ⟨w3.heap.size, 0, none⟩ 1 1 [.slice (some ⟨g3, 0, none⟩) n3 c3] (by rfl) (by rfl) (World.news_of_block (cs := #[.slice (some ⟨g3, 0, none⟩) n3 c3]) (t := 23) (fr := (0, 0)) (heap_alloc_new w3 _)) (by simp [Value.oneCell']) (by omega) hmax (by omega) (by simp; omega) (w3.heap.size + 1) (by simp) ?_
          intro gg cg w5 hown5 hgr5 hat5 hlt5
          have Lo5 := lies_grown (Lo3.alloc _) hgr5 (fun e => own_ne_box hN3.2.1 Lo3 e.symm)
          have hS5 : (fun w' : World => w'.cell? ⟨w.heap.size, 1, none⟩ = some (.slice (some ⟨gh, 0, none⟩) hs.length ch) ∧ w'.cell? ⟨gh, k, none⟩ = some (.slice (some ⟨gt, 0, none⟩) nt ct)) w5 := ⟨(World.cell?_of_block (a := ⟨w.heap.size, 1, none⟩) (hgr5.block w.heap.size (by simp; omega) (fun e => own_ne_box hN3.2.1 PB3 e.symm))).trans hS4.1, (World.cell?_of_block (a := ⟨gh, k, none⟩) (hgr5.block gh (by simp; omega) (fun e => by have := (hN3.2.1.lt _ e.symm).1; omega))).trans hS4.2⟩
          refine ⟨hS5, ?_⟩
          simp only [Act.put, List.setIfInBounds_toArray]
          refine wpAnyH_take (i := 11) (v := .pointer (some ⟨w1.heap.size, 1, none⟩)) rfl (by kernel_rfl) (by kernel_rfl) (by kernel_rfl) (fun _ _ _ h => h) (Or.inl ⟨by rfl, by rintro w' ⟨s1, s2⟩; go_simp⟩) hS5 ?_
          refine wpAnyH_all (rs := [12]) (by kernel_rfl) (by simp) ?_
          intro i hi
          obtain rfl : i = 12 := by simpa using hi
          obtain ⟨d05, d15, f05, f15⟩ := lies2 Lo5
          have O5 : Only w1.heap.size w5 (w5.setCell ⟨w1.heap.size, 1, none⟩ (.slice (some ⟨gg, 0, none⟩) (hs'.length + 1) cg)) := (Only.refl (w1.heap.size) w5).set (p := ⟨w1.heap.size, 1, none⟩) (.inl rfl) _
          have hggn : gg ≠ w1.heap.size := fun e => own_ne_box hown5 Lo5 (by rw [← e]; rfl)
          have hS6 : (fun w' : World => w'.cell? ⟨w.heap.size, 1, none⟩ = some (.slice (some ⟨gh, 0, none⟩) hs.length ch) ∧ w'.cell? ⟨gh, k, none⟩ = some (.slice (some ⟨gt, 0, none⟩) nt ct)) (w5.setCell ⟨w1.heap.size, 1, none⟩ (.slice (some ⟨gg, 0, none⟩) (hs'.length + 1) cg)) := ⟨(World.cell?_of_block (a := ⟨w.heap.size, 1, none⟩) (O5.block w.heap.size (by omega) (by have := hgr5.size; simp at this; omega))).trans hS5.1, (World.cell?_of_block (a := ⟨gh, k, none⟩) (O5.block gh (by omega) (by have := hgr5.size; simp at this; omega))).trans hS5.2⟩
          refine wpOp_now rfl (by rfl) ?_
          go_simp
          refine wpAnyH_done (by kernel_rfl) ?_ _
          simp only [Exit.then, Exit.inBlock]
          have keep5 : ∀ t : LoopT, t.in w3 → t.in (w5.setCell ⟨w1.heap.size, 1, none⟩ (.slice (some ⟨gg, 0, none⟩) (hs'.length + 1) cg)) := fun t ht => by
            have h5 := (ht.below B34).grown hgr5 (ht.ne_own hN3.2.1)
            exact h5.only O5 (h5.ne_box Lo5)
          have hr5 := own_only' hown5 O5 (fun e => hggn (Option.some.inj e))
          have hN4 : PlN w1.heap.size (w5.setCell ⟨w1.heap.size, 1, none⟩ (.slice (some ⟨gg, 0, none⟩) (hs'.length + 1) cg)) ⟨g1, n, c1, l.map f⟩ (.slice (some ⟨gg, 0, none⟩) (hs'.length + 1) cg) (hs' ++ [(⟨g3, n3, c3, l3⟩ : LoopT)]) := by
            refine ⟨keep5 _ hN3.1, by simpa [LoopT.v] using hr5, fun t ht => ?_⟩
            rcases List.mem_append.1 ht with h | h
            · exact keep5 t (hN3.2.2 t h)
            · obtain rfl : t = ⟨g3, n3, c3, l3⟩ := by simpa using h
              exact keep5 _ hin3
          have L4 := lies_set1 (z := .slice (some ⟨gg, 0, none⟩) (hs'.length + 1) cg) Lo5
          have J5 := (((bw_trans hnx.drew J3).alloc (by omega) (.cells #[.slice (some ⟨g3, 0, none⟩) n3 c3] 23)).grown hgr5 (by simp; omega) (fun j e => by have := (hN3.2.1.lt j e).1; omega)).setCell (p := ⟨w1.heap.size, 1, none⟩) (Nat.le_refl _) (.slice (some ⟨gg, 0, none⟩) (hs'.length + 1) cg)
          clear hown5 hgr5 hat5 hlt5 keep5 hr5 O5 hN3 Lo3 Lo5 d03 d13 f03 f13 d05 d15 f05 f15 B34 hS3 hS4 hS5 hS6
          generalize w5.setCell ⟨w1.heap.size, 1, none⟩ (.slice (some ⟨gg, 0, none⟩) (hs'.length + 1) cg) = x4 at *
          obtain ⟨d0, d1, f0, f1⟩ := lies2 L4
          go_wp2_with fail
          go_roundw
          case rel =>
            refine ⟨k + 1, _, hs' ++ [(⟨g3, n3, c3, l3⟩ : LoopT)], by omega, by simp, L4, hN4, by simp [Hkl.out], ?_, J5⟩
            rw [List.map_append, hmap, List.take_add_one, ht1]
            simp [← hl3]
          case measure => simp [intOf]; omega
        · skip
          have B34 : Below w3.heap.size w3 (w3.alloc (.cells #[.slice (some ⟨g3, 0, none⟩) n3 c3] 23)) := (by repeat (first | exact bw_refl _ | assumption | apply bw_drewN | apply bw_drew | apply bw_alloc | refine bw_set ?_ (by simp) _))
          have hS4 : (fun w' : World => w'.cell? ⟨w.heap.size, 1, none⟩ = some (.slice (some ⟨gh, 0, none⟩) hs.length ch) ∧ w'.cell? ⟨gh, k, none⟩ = some (.slice (some ⟨gt, 0, none⟩) nt ct)) (w3.alloc (.cells #[.slice (some ⟨g3, 0, none⟩) n3 c3] 23)) := ⟨(B34.cell (p := ⟨w.heap.size, 1, none⟩) (show w.heap.size < w3.heap.size by omega)).trans hS3.1, (B34.cell (p := ⟨gh, k, none⟩) (show gh < w3.heap.size by omega)).trans hS3.2⟩
          refine wpOp_now rfl (by rfl) ?_
          go_simp
          refine wpAnyH_all (rs := [1]) (by kernel_rfl) (by simp) ?_
          intro i hi
          obtain rfl : i = 1 := by simpa using hi
          refine YieldsIf.wpOp (S := fun w' => w' = w3.alloc (.cells #[.slice (some ⟨g3, 0, none⟩) n3 c3] 23)) (v := hv) rfl (Or.inl ⟨by rfl, by rintro w' rfl; go_simp⟩) rfl ⟨hS4, ?_⟩
          refine wpAnyH_all (rs := [10]) (by kernel_rfl) (by simp) ?_
          intro i hi
          obtain rfl : i = 10 := by simpa using hi
          refine wpOp_now rfl (by rfl) ?_
          refine wp_append_lies _ _ _ _ (by rfl) w1.heap.size 23 i0 _ 1 24 Try.underlying24 hi0 hz0 hz1 hz2 rfl (by omega) _ hs'.length _ (by rfl) (hN3.2.1.alloc _) ⟨w3.heap.size, 0, none⟩ 1 1 [.slice (some ⟨g3, 0, none⟩) n3 c3] (by rfl) (by rfl) (World.news_of_block (cs := #[.slice (some ⟨g3, 0, none⟩) n3 c3]) (t := 23) (fr := (0, 0)) (heap_alloc_new w3 _)) (by simp [Value.oneCell']) (by omega) hmax (by omega) (by simp; omega) (w3.heap.size + 1) (by simp) ?_
          intro gg cg w5 hown5 hgr5 hat5 hlt5
          have Lo5 := lies_grown (Lo3.alloc _) hgr5 (fun e => own_ne_box hN3.2.1 Lo3 e.symm)
          have hS5 : (fun w' : World => w'.cell? ⟨w.heap.size, 1, none⟩ = some (.slice (some ⟨gh, 0, none⟩) hs.length ch) ∧ w'.cell? ⟨gh, k, none⟩ = some (.slice (some ⟨gt, 0, none⟩) nt ct)) w5 := ⟨(World.cell?_of_block (a := ⟨w.heap.size, 1, none⟩) (hgr5.block w.heap.size (by simp; omega) (fun e => own_ne_box hN3.2.1 PB3 e.symm))).trans hS4.1, (World.cell?_of_block (a := ⟨gh, k, none⟩) (hgr5.block gh (by simp; omega) (fun e => by have := (hN3.2.1.lt _ e.symm).1; omega))).trans hS4.2⟩
          refine ⟨hS5, ?_⟩
          simp only [Act.put, List.setIfInBounds_toArray]
          refine wpAnyH_take (i := 11) (v := .pointer (some ⟨w1.heap.size, 1, none⟩)) rfl (by kernel_rfl) (by kernel_rfl) (by kernel_rfl) (fun _ _ _ h => h) (Or.inl ⟨by rfl, by rintro w' ⟨s1, s2⟩; go_simp⟩) hS5 ?_
          refine wpAnyH_all (rs := [12]) (by kernel_rfl) (by simp) ?_
          intro i hi
          obtain rfl : i = 12 := by simpa using hi
          obtain ⟨d05, d15, f05, f15⟩ := lies2 Lo5
          have O5 : Only w1.heap.size w5 (w5.setCell ⟨w1.heap.size, 1, none⟩ (.slice (some ⟨gg, 0, none⟩) (hs'.length + 1) cg)) := (Only.refl (w1.heap.size) w5).set (p := ⟨w1.heap.size, 1, none⟩) (.inl rfl) _
          have hggn : gg ≠ w1.heap.size := fun e => own_ne_box hown5 Lo5 (by rw [← e]; rfl)
          have hS6 : (fun w' : World => w'.cell? ⟨w.heap.size, 1, none⟩ = some (.slice (some ⟨gh, 0, none⟩) hs.length ch) ∧ w'.cell? ⟨gh, k, none⟩ = some (.slice (some ⟨gt, 0, none⟩) nt ct)) (w5.setCell ⟨w1.heap.size, 1, none⟩ (.slice (some ⟨gg, 0, none⟩) (hs'.length + 1) cg)) := ⟨(World.cell?_of_block (a := ⟨w.heap.size, 1, none⟩) (O5.block w.heap.size (by omega) (by have := hgr5.size; simp at this; omega))).trans hS5.1, (World.cell?_of_block (a := ⟨gh, k, none⟩) (O5.block gh (by omega) (by have := hgr5.size; simp at this; omega))).trans hS5.2⟩
          refine wpOp_now rfl (by rfl) ?_
          go_simp
          refine wpAnyH_done (by kernel_rfl) ?_ _
          simp only [Exit.then, Exit.inBlock]
          have keep5 : ∀ t : LoopT, t.in w3 → t.in (w5.setCell ⟨w1.heap.size, 1, none⟩ (.slice (some ⟨gg, 0, none⟩) (hs'.length + 1) cg)) := fun t ht => by
            have h5 := (ht.below B34).grown hgr5 (ht.ne_own hN3.2.1)
            exact h5.only O5 (h5.ne_box Lo5)
          have hr5 := own_only' hown5 O5 (fun e => hggn (Option.some.inj e))
          have hN4 : PlN w1.heap.size (w5.setCell ⟨w1.heap.size, 1, none⟩ (.slice (some ⟨gg, 0, none⟩) (hs'.length + 1) cg)) ⟨g1, n, c1, l.map f⟩ (.slice (some ⟨gg, 0, none⟩) (hs'.length + 1) cg) (hs' ++ [(⟨g3, n3, c3, l3⟩ : LoopT)]) := by
            refine ⟨keep5 _ hN3.1, by simpa [LoopT.v] using hr5, fun t ht => ?_⟩
            rcases List.mem_append.1 ht with h | h
            · exact keep5 t (hN3.2.2 t h)
            · obtain rfl : t = ⟨g3, n3, c3, l3⟩ := by simpa using h
              exact keep5 _ hin3
          have L4 := lies_set1 (z := .slice (some ⟨gg, 0, none⟩) (hs'.length + 1) cg) Lo5
          have J5 := (((bw_trans hnx.drew J3).alloc (by omega) (.cells #[.slice (some ⟨g3, 0, none⟩) n3 c3] 23)).grown hgr5 (by simp; omega) (fun j e => by have := (hN3.2.1.lt j e).1; omega)).setCell (p := ⟨w1.heap.size, 1, none⟩) (Nat.le_refl _) (.slice (some ⟨gg, 0, none⟩) (hs'.length + 1) cg)
          clear hown5 hgr5 hat5 hlt5 keep5 hr5 O5 hN3 Lo3 Lo5 d03 d13 f03 f13 d05 d15 f05 f15 B34 hS3 hS4 hS5 hS6
          generalize w5.setCell ⟨w1.heap.size, 1, none⟩ (.slice (some ⟨gg, 0, none⟩) (hs'.length + 1) cg) = x4 at *
          obtain ⟨d0, d1, f0, f1⟩ := lies2 L4
          go_wp2_with fail
          go_roundw
          case rel =>
            refine ⟨k + 1, _, hs' ++ [(⟨g3, n3, c3, l3⟩ : LoopT)], by omega, by simp, L4, hN4, by simp [Hkl.out], ?_, J5⟩
            rw [List.map_append, hmap, List.take_add_one, ht1]
            simp [← hl3]
          case measure => simp [intOf]; omega
end Go.Proofs.Ythedlopfjlnogaa
