/-
  OUR OWN TEXT. The specification's drawn plates, by contract.
-/
import Derived.Test.YtfnhbdanfnpdeaaDoorDrawLoop
import Derived.Test.YtfnhbdanfnpdeaaDoorSPlateOk
import Derived.Test.YtfnhbdanfnpdeaaDoorToPlate
import Derived.Deep.DeepAppendWide
import Derived.Deep.AppendLies
namespace Go.Proofs.YtfnhbdanfnpdeaaDoor
open Go.RowKit

/-- Where a drawn loop lies: its block, how many points, how many there is room for. -/
structure LoopT where
  g : Nat
  n : Nat
  c : Nat
  l : List P2
def LoopT.v (t : LoopT) : Value := .slice (some ⟨t.g, 0, none⟩) t.n t.c
def LoopT.ok (base : Nat) (W : World) (t : LoopT) : Prop := 3 ≤ t.n ∧ t.n ≤ 8 ∧ t.l.length = t.n ∧ t.n ≤ t.c ∧ t.c ≤ maxLen ∧ base ≤ t.g ∧ PtBlk W t.g t.c t.l t.n
theorem LoopT.ok.only {base r : Nat} {W W' : World} {t : LoopT} (h : t.ok base W) (O : Only r W W') (hr : r < base) : t.ok base W' := by
  obtain ⟨h1, h2, h3, h4, h5, h6, h7⟩ := h
  exact ⟨h1, h2, h3, h4, h5, h6, blk_only h7 O (by omega)⟩
theorem LoopT.ok.below {base : Nat} {W W' : World} {t : LoopT} (h : t.ok base W) (J : Below W.heap.size W W') : t.ok base W' := by
  obtain ⟨h1, h2, h3, h4, h5, h6, h7⟩ := h
  exact ⟨h1, h2, h3, h4, h5, h6, h7.below J⟩
theorem LoopT.ok.grown {base : Nat} {W W' : World} {t : LoopT} {row : Option Nat} (h : t.ok base W) (hg : W.grownBy W' row) (hne : some t.g ≠ row) : t.ok base W' := by
  obtain ⟨h1, h2, h3, h4, h5, h6, h7⟩ := h
  have hlt := h7.lt
  obtain ⟨cur, hc, hs⟩ := h7
  exact ⟨h1, h2, h3, h4, h5, h6, cur, (hg.block t.g hlt hne).trans hc, hs⟩
theorem own_only {W W' : World} {base r : Nat} {e : TypeId} {size n : Nat} {v : Value} {xs : List Value} (h : W.ownsRow base e size v n xs) (O : Only r W W') (hr : r < base) : W'.ownsRow base e size v n xs :=
  h.kept (row := some r) ⟨O.os, O.tape, O.output, O.size, fun j hj hne => O.block j (fun e => hne (by rw [e])) hj⟩ (.inr (fun e => by have := (h.lt r e).1; omega))
theorem own_below {W W' : World} {base : Nat} {e : TypeId} {size n : Nat} {v : Value} {xs : List Value} (h : W.ownsRow base e size v n xs) (J : Below W.heap.size W W') : W'.ownsRow base e size v n xs :=
  h.kept (row := none) ⟨J.os, J.tape, J.output, J.size, fun j hj _ => J.block j hj⟩ (Classical.em _)
theorem own_slice {W : World} {base : Nat} {e : TypeId} {size n : Nat} {v : Value} {xs : List Value} (h : W.ownsRow base e size v n xs) : ∃ a c, v = .slice a n c := by
  rcases h.2 with ⟨e1, e2⟩ | ⟨g, cap, cur, e1, _⟩
  · exact ⟨none, 0, by rw [e1, e2]⟩
  · exact ⟨_, _, e1⟩
theorem own_news {W : World} {base : Nat} {e : TypeId} {n gh ch : Nat} {xs : List Value} (h : W.ownsRow base e 1 (.slice (some ⟨gh, 0, none⟩) n ch) n xs) {j : Nat} {u : Value} (hu : xs[j]? = some u) : W.cell? ((⟨gh, 0, none⟩ : Addr).add j) = some u := by
  have hx := h.1
  rcases h.2 with ⟨h, _⟩ | ⟨g', c', cur, e, hb, hg, h1, h2, hs, ht⟩
  · cases h
  · cases e
    have hj := (List.getElem?_eq_some_iff.1 hu).1
    rw [← ht, List.getElem?_take_of_lt (by omega), Array.getElem?_toList] at hu
    rw [show ((⟨gh, 0, none⟩ : Addr).add j) = ⟨gh, j, none⟩ by unfold Addr.add; split <;> simp_all, row_cell hg]; exact hu
theorem own_mono {W : World} {base base' : Nat} {e : TypeId} {size n : Nat} {v : Value} {xs : List Value} (h : W.ownsRow base e size v n xs) (hb : base' ≤ base) : W.ownsRow base' e size v n xs := by
  refine ⟨h.1, ?_⟩
  rcases h.2 with h0 | ⟨g, cap, cur, e1, e2, rest⟩
  · exact .inl h0
  · exact .inr ⟨g, cap, cur, e1, by omega, rest⟩
theorem LoopT.ok.only' {base r : Nat} {W W' : World} {t : LoopT} (h : t.ok base W) (O : Only r W W') (hr : t.g ≠ r) : t.ok base W' := by
  obtain ⟨h1, h2, h3, h4, h5, h6, h7⟩ := h
  exact ⟨h1, h2, h3, h4, h5, h6, blk_only h7 O hr⟩
theorem lies_set1 {b : Nat} {x y z : Value} {t : TypeId} {W : World} (h : Lies b #[x, y] t W) : Lies b #[x, z] t (W.setCell ⟨b, 1, none⟩ z) := by
  unfold Lies at h ⊢
  exact setCell_row h z
theorem lies_grown {b : Nat} {cs : Array Value} {t : TypeId} {W W' : World} {row : Option Nat} (h : Lies b cs t W) (hg : W.grownBy W' row) (hne : some b ≠ row) : Lies b cs t W' := by
  have hl := h.lt
  unfold Lies at h ⊢
  exact (hg.block b hl hne).trans h
theorem blk_pts {W : World} {g c n : Nat} {l : List P2} (h : PtBlk W g c l n) (hl : l.length = n) : Pts W.heap.size W (some ⟨g, 0, none⟩) n l := by
  have hg := h.lt
  obtain ⟨cur, h, hs, hc⟩ := h
  refine ⟨hl, .inr ⟨g, 0, rfl, hg, fun j hj => ?_⟩⟩
  rw [Nat.zero_add, row_cell h, row_cell h]; exact hc j hj
theorem own_grown {W W' : World} {base : Nat} {e : TypeId} {size n : Nat} {v : Value} {xs : List Value} {row : Option Nat} (h : W.ownsRow base e size v n xs) (hg : W.grownBy W' row) (hne : v.ownBlock ≠ row) : W'.ownsRow base e size v n xs := h.kept hg (.inr hne)
theorem own_only' {W W' : World} {base r : Nat} {e : TypeId} {size n : Nat} {v : Value} {xs : List Value} (h : W.ownsRow base e size v n xs) (O : Only r W W') (hr : v.ownBlock ≠ some r) : W'.ownsRow base e size v n xs :=
  h.kept (row := some r) ⟨O.os, O.tape, O.output, O.size, fun j hj hne => O.block j (fun e => hne (by rw [e])) hj⟩ (.inr hr)
/-- A slice with an address. -/
def Seat (v : Value) : Prop := ∃ (ad : Addr) (n c : Nat), v = .slice (some ad) n c
theorem own_seat {W : World} {base : Nat} {e : TypeId} {size n : Nat} {v : Value} {xs : List Value} (h : W.ownsRow base e size v n xs) (hs : Seat v) : ∃ g c, v = .slice (some ⟨g, 0, none⟩) n c := by
  rcases h.2 with ⟨e1, e2⟩ | ⟨g, cap, cur, e1, _⟩
  · obtain ⟨ad, n', c, e⟩ := hs; rw [e1] at e; cases e
  · exact ⟨_, _, e1⟩
/-- A drawn plate: its loops, and the row of its holes. -/
def PlD (base : Nat) (W : World) (o : LoopT) (hv : Value) (hs : List LoopT) : Prop :=
  o.ok base W ∧ hs.length ≤ 4 ∧ W.ownsRow base 25 1 hv hs.length (hs.map LoopT.v) ∧ ∀ t ∈ hs, t.ok base W
theorem PlD.only {base r : Nat} {W W' : World} {o : LoopT} {hv : Value} {hs : List LoopT} (h : PlD base W o hv hs) (O : Only r W W') (hr : r < base) : PlD base W' o hv hs :=
  ⟨h.1.only O hr, h.2.1, own_only h.2.2.1 O hr, fun t ht => (h.2.2.2 t ht).only O hr⟩
theorem PlD.below {base : Nat} {W W' : World} {o : LoopT} {hv : Value} {hs : List LoopT} (h : PlD base W o hv hs) (J : Below W.heap.size W W') : PlD base W' o hv hs :=
  ⟨h.1.below J, h.2.1, own_below h.2.2.1 J, fun t ht => (h.2.2.2 t ht).below J⟩
theorem PlD.mono {base base' : Nat} {W : World} {o : LoopT} {hv : Value} {hs : List LoopT} (h : PlD base W o hv hs) (hb : base' ≤ base) : PlD base' W o hv hs := by
  have key : ∀ t : LoopT, t.ok base W → t.ok base' W := fun t ⟨h1, h2, h3, h4, h5, h6, h7⟩ => ⟨h1, h2, h3, h4, h5, by omega, h7⟩
  refine ⟨key _ h.1, h.2.1, ⟨h.2.2.1.1, ?_⟩, fun t ht => key _ (h.2.2.2 t ht)⟩
  rcases h.2.2.1.2 with h0 | ⟨g, cap, cur, e1, e2, rest⟩
  · exact .inl h0
  · exact .inr ⟨g, cap, cur, e1, by omega, rest⟩
theorem PlD.plt {base : Nat} {W : World} {o : LoopT} {gh ch : Nat} {hs : List LoopT} (h : PlD base W o (.slice (some ⟨gh, 0, none⟩) hs.length ch) hs) : Plt W (some ⟨o.g, 0, none⟩) o.n (some ⟨gh, 0, none⟩) hs.length o.l (hs.map LoopT.l) := by
  obtain ⟨⟨h1, h2, h3, h4, h5, h6, h7⟩, _, hr, ht⟩ := h
  refine ⟨by omega, blk_pts h7 h3, by simp, fun j => some ⟨(hs[j]?.map LoopT.g).getD 0, 0, none⟩, fun j => (hs[j]?.map LoopT.n).getD 0, fun j => (hs[j]?.map LoopT.c).getD 0, .inr ⟨gh, 0, rfl, (hr.lt gh rfl).2, fun j hj => ?_⟩, fun j hj => ?_⟩
  · have := own_news hr (j := j) (u := (hs[j]).v) (by simp [hj])
    simp only [List.getElem?_eq_getElem hj, Option.map_some, Option.getD_some]
    rw [show ((⟨gh, 0, none⟩ : Addr).add j) = ⟨gh, j, none⟩ by unfold Addr.add; split <;> simp_all] at this
    rw [Nat.zero_add]; exact this
  · obtain ⟨k1, k2, k3, k4, k5, k6, k7⟩ := ht hs[j] (List.getElem_mem hj)
    simp only [List.getElem?_map, List.getElem?_eq_getElem hj, Option.map_some, Option.getD_some]
    exact ⟨by omega, blk_pts k7 k3⟩
set_option maxRecDepth 100000 in
set_option maxHeartbeats 8000000 in
theorem good_any (k : Nat) (a : Option Addr) (len cap r : Nat) (w : World) (hk : k ≤ 700000) (R : Rd w r k a len cap) :
    Calls Tryd.prog 71 #[.pointer (some ⟨r, 0, none⟩)] w fun e w' => ∃ (o : LoopT) (hv : Value) (hs : List LoopT) (k' : Nat), e = .returned (.agg #[o.v, hv]) ∧ PlD w.heap.size w' o hv hs ∧ (hs.length ≤ 2 ∧ o.n ≤ 7 ∧ Seat hv) ∧ k' ≤ k + 30 ∧ Rd w' r k' a len cap ∧ Only r w w' := by
  obtain ⟨i0, hi0, hz0, hz1, hz2⟩ := info_parts Tryd.infoPts
  have hlt := R.lt
  have P := (Only.refl r w).alloc (.cells #[.slice none 0 0, .slice none 0 0] 40)
  have Z : Lies w.heap.size #[.slice none 0 0, .slice none 0 0] 40 (w.alloc (.cells #[.slice none 0 0, .slice none 0 0] 40)) := Lies.new w _ _
  replace R := R.alloc (.cells #[.slice none 0 0, .slice none 0 0] 40)
  go_enter Tryd.func71, Tryd.ntmps71
  go_wp2_with fail
  refine (pick_rd 3 k a len cap r _ (by omega) (by omega) R).mono ?_
  clear R
  rintro e w1 ⟨x, rfl, xa, xb, R, O⟩
  replace P := P.trans O
  replace Z : Lies w.heap.size #[.slice none 0 0, .slice none 0 0] 40 w1 := keepO O Z (by omega)
  clear O
  go_wp2_with fail
  refine (pick_rd 3 (k + 1) a len cap r _ (by omega) (by omega) R).mono ?_
  clear R
  rintro e w2 ⟨y, rfl, ya, yb, R, O⟩
  replace P := P.trans O
  replace Z : Lies w.heap.size #[.slice none 0 0, .slice none 0 0] 40 w2 := keepO O Z (by omega)
  clear O
  go_wp2_with fail
  refine (pick_rd (9 - x - 3) (k + 1 + 1) a len cap r _ (by omega) (by omega) R).mono ?_
  clear R
  rintro e w3 ⟨u, rfl, ua, ub, R, O⟩
  replace P := P.trans O
  replace Z : Lies w.heap.size #[.slice none 0 0, .slice none 0 0] 40 w3 := keepO O Z (by omega)
  clear O
  go_wp2_with fail
  refine (pick_rd (9 - y - 3) (k + 1 + 1 + 1) a len cap r _ (by omega) (by omega) R).mono ?_
  clear R
  rintro e w4 ⟨v, rfl, va, vb, R, O⟩
  replace P := P.trans O
  replace Z : Lies w.heap.size #[.slice none 0 0, .slice none 0 0] 40 w4 := keepO O Z (by omega)
  clear O
  have z4 := Z.lt
  go_wp2_with fail
  refine (box_any (k + 1 + 1 + 1 + 1) a len cap r x y (4 + u) (4 + v) _ (by omega) R (by omega) (by omega) (by omega) (by omega) (by omega) (by omega) (by omega) (by omega)).mono ?_
  clear R
  rintro e w5 ⟨g, n, c, l, k5, rfl, n3, n6, hl, hown, hk5, R, O⟩
  obtain ⟨hb, hnc, hcm, hbg⟩ := blk_of_own hown hl
  replace P := P.trans O
  replace Z : Lies w.heap.size #[.slice none 0 0, .slice none 0 0] 40 w5 := keepO O Z (by omega)
  clear O hown
  have hgr : g ≠ r := by omega
  have hgw : w.heap.size + 1 ≤ g := by omega
  have z5 := Z.lt
  have zr := R.lt
  have zg := hb.lt
  have ho5 : (⟨g, n, c, l⟩ : LoopT).ok (w.heap.size + 1) w5 := ⟨n3, by show n ≤ 8; omega, hl, hnc, hcm, hgw, hb⟩
  have B6 : Below w5.heap.size w5 ((w5.alloc (.cells #[] 25)).alloc (.cells #[.slice (some ⟨g, 0, none⟩) n c, .slice (some ⟨w5.heap.size, 0, none⟩) 0 0] 40)) := (by repeat (first | exact bw_refl _ | assumption | apply bw_drewN | apply bw_drew | apply bw_alloc | refine bw_set ?_ (by simp) _))
  have hr6 : ((w5.alloc (.cells #[] 25)).alloc (.cells #[.slice (some ⟨g, 0, none⟩) n c, .slice (some ⟨w5.heap.size, 0, none⟩) 0 0] 40)).ownsRow (w.heap.size + 1) 25 1 (.slice (some ⟨w5.heap.size, 0, none⟩) 0 0) 0 [] := (World.ownsRow_made w5 #[] 0 (by omega) (by simp [maxLen]) rfl : (w5.alloc (.cells #[] 25)).ownsRow (w.heap.size + 1) 25 1 (.slice (some ⟨w5.heap.size, 0, none⟩) 0 0) 0 []).alloc _
  have Lp : Lies (w5.heap.size + 1) #[.slice (some ⟨g, 0, none⟩) n c, .slice (some ⟨w5.heap.size, 0, none⟩) 0 0] 40 ((w5.alloc (.cells #[] 25)).alloc (.cells #[.slice (some ⟨g, 0, none⟩) n c, .slice (some ⟨w5.heap.size, 0, none⟩) 0 0] 40)) := heap_new1 w5 _ _
  replace R := R.below B6
  replace P := P.trans (Only.of_below B6)
  replace Z := Z.below B6
  replace ho5 := ho5.below B6
  go_wp2_with fail
  refine (pick_rd 3 k5 a len cap r _ (by omega) (by omega) R).mono ?_
  clear R
  rintro e w6 ⟨m0, rfl, ma, mb, R, O⟩
  replace P := P.trans O
  replace Z : Lies w.heap.size #[.slice none 0 0, .slice none 0 0] 40 w6 := keepO O Z (by omega)
  replace Lp : Lies (w5.heap.size + 1) #[.slice (some ⟨g, 0, none⟩) n c, .slice (some ⟨w5.heap.size, 0, none⟩) 0 0] 40 w6 := keepO O Lp (by omega)
  replace ho5 := ho5.only O (by omega)
  have hr7 : w6.ownsRow (w.heap.size + 1) 25 1 (.slice (some ⟨w5.heap.size, 0, none⟩) 0 0) 0 [] := own_only hr6 O (by omega)
  clear O hr6 hb B6
  go_wp2_with fail
  go_loopw [8] (fun i wr => ∃ (m : Int) (hv : Value) (hs : List LoopT) (k' : Nat), i = .int .i64 m ∧ 0 ≤ m ∧ m ≤ 2 ∧ Seat hv ∧ Lies (w5.heap.size + 1) #[.slice (some ⟨g, 0, none⟩) n c, hv] 40 wr ∧ PlD (w.heap.size + 1) wr ⟨g, n, c, l⟩ hv hs ∧ (hs.length : Int) ≤ 2 - m ∧ (k' : Int) ≤ k5 + 1 + 10 * (2 - m) ∧ Rd wr r k' a len cap ∧ Only r w wr ∧ Lies w.heap.size #[.slice none 0 0, .slice none 0 0] 40 wr) (fun i _ => (intOf i).toNat)
  case atStart => exact ⟨m0, _, [], k5 + 1, rfl, by omega, by omega, ⟨_, _, _, rfl⟩, Lp, ⟨ho5, by simp, hr7, fun t ht => by simp at ht⟩, by simp; omega, by omega, R, P, Z⟩
  case round =>
    obtain ⟨m, hv, hs, k', rfl, m1, m2, hst, Lp, hD, hsl, hk', R, P, Z⟩ := hrel
    by_cases hm : 0 < m
    case neg =>
      obtain rfl : m = 0 := by omega
      obtain ⟨d0, d1, _, _⟩ := lies2 Lp
      obtain ⟨y0, y1, f0, f1⟩ := lies2 Z
      have zZ := Z.lt
      obtain ⟨ah, ch, rfl⟩ : ∃ ah ch, hv = .slice ah hs.length ch := own_slice hD.2.2.1
      have Z1 := setB2 (u0 := .slice (some ⟨g, 0, none⟩) n c) (u1 := .slice ah hs.length ch) Z
      obtain ⟨v0, v1, _, _⟩ := lies2 Z1
      go_wp2_with fail
      refine bodyPost_ret (v := .agg #[.slice (some ⟨g, 0, none⟩) n c, .slice ah hs.length ch]) (by simp [results, Tryd.results71, go_sem, v0, v1]) rfl ?_
      have hD2 := (hD.only ((Only.refl w.heap.size wr).set (p := ⟨w.heap.size, 0, none⟩) (.inl rfl) (.slice (some ⟨g, 0, none⟩) n c)) (by omega)).only ((Only.refl w.heap.size _).set (p := ⟨w.heap.size, 1, none⟩) (.inl rfl) (.slice ah hs.length ch)) (by omega)
      exact ⟨⟨g, n, c, l⟩, _, rfl, hs, hD2.mono (by omega), ⟨by omega, by show n ≤ 7; omega, hst⟩, k', by omega, (R.set (by show r < w.heap.size; omega) _).set (by show r < w.heap.size; omega) _, (P.set (.inr (by show w.heap.size ≤ w.heap.size; omega)) _).set (.inr (by show w.heap.size ≤ w.heap.size; omega)) _⟩
    case pos =>
      have hgs : ∀ t ∈ hs, t.g < wr.heap.size := fun t ht => by obtain ⟨_, _, _, _, _, _, h7⟩ := hD.2.2.2 t ht; exact h7.lt
      have Bq : Below wr.heap.size wr (wr.alloc (.cells #[.slice (some ⟨g, 0, none⟩) n c, hv] 40)) := (by repeat (first | exact bw_refl _ | assumption | apply bw_drewN | apply bw_drew | apply bw_alloc | refine bw_set ?_ (by simp) _))
      have Lq : Lies wr.heap.size #[.slice (some ⟨g, 0, none⟩) n c, hv] 40 (wr.alloc (.cells #[.slice (some ⟨g, 0, none⟩) n c, hv] 40)) := Lies.new wr _ _
      obtain ⟨d0, d1, _, _⟩ := lies2 Lp
      obtain ⟨gh, ch, rfl⟩ : ∃ gh ch, hv = .slice (some ⟨gh, 0, none⟩) hs.length ch := own_seat hD.2.2.1 hst
      have zL := Lp.lt
      have hghw : gh < wr.heap.size := (hD.2.2.1.lt gh rfl).2
      replace Lp := Lp.below Bq
      replace hD := hD.below Bq
      replace R := R.below Bq
      replace P := P.trans (Only.of_below Bq)
      replace Z := Z.below Bq
      go_wp2_with fail
      refine (pick_rd (4 + u - 2) k' a len cap r _ (by omega) (by omega) R).mono ?_
      clear R
      rintro e x1 ⟨p1, rfl, p1a, p1b, R, O⟩
      replace P := P.trans O
      replace Z : Lies w.heap.size #[.slice none 0 0, .slice none 0 0] 40 x1 := keepO O Z (by omega)
      replace Lp : Lies (w5.heap.size + 1) #[.slice (some ⟨g, 0, none⟩) n c, .slice (some ⟨gh, 0, none⟩) hs.length ch] 40 x1 := keepO O Lp (by omega)
      replace Lq : Lies wr.heap.size #[.slice (some ⟨g, 0, none⟩) n c, .slice (some ⟨gh, 0, none⟩) hs.length ch] 40 x1 := keepO O Lq (by omega)
      replace hD := hD.only O (by omega)
      clear O
      go_wp2_with fail
      refine (pick_rd (4 + v - 2) (k' + 1) a len cap r _ (by omega) (by omega) R).mono ?_
      clear R
      rintro e x2 ⟨p2, rfl, p2a, p2b, R, O⟩
      replace P := P.trans O
      replace Z : Lies w.heap.size #[.slice none 0 0, .slice none 0 0] 40 x2 := keepO O Z (by omega)
      replace Lp : Lies (w5.heap.size + 1) #[.slice (some ⟨g, 0, none⟩) n c, .slice (some ⟨gh, 0, none⟩) hs.length ch] 40 x2 := keepO O Lp (by omega)
      replace Lq : Lies wr.heap.size #[.slice (some ⟨g, 0, none⟩) n c, .slice (some ⟨gh, 0, none⟩) hs.length ch] 40 x2 := keepO O Lq (by omega)
      replace hD := hD.only O (by omega)
      clear O
      go_wp2_with fail
      refine (pick_rd (2) (k' + 1 + 1) a len cap r _ (by omega) (by omega) R).mono ?_
      clear R
      rintro e x3 ⟨p3, rfl, p3a, p3b, R, O⟩
      replace P := P.trans O
      replace Z : Lies w.heap.size #[.slice none 0 0, .slice none 0 0] 40 x3 := keepO O Z (by omega)
      replace Lp : Lies (w5.heap.size + 1) #[.slice (some ⟨g, 0, none⟩) n c, .slice (some ⟨gh, 0, none⟩) hs.length ch] 40 x3 := keepO O Lp (by omega)
      replace Lq : Lies wr.heap.size #[.slice (some ⟨g, 0, none⟩) n c, .slice (some ⟨gh, 0, none⟩) hs.length ch] 40 x3 := keepO O Lq (by omega)
      replace hD := hD.only O (by omega)
      clear O
      go_wp2_with fail
      refine (pick_rd (2) (k' + 1 + 1 + 1) a len cap r _ (by omega) (by omega) R).mono ?_
      clear R
      rintro e x4 ⟨p4, rfl, p4a, p4b, R, O⟩
      replace P := P.trans O
      replace Z : Lies w.heap.size #[.slice none 0 0, .slice none 0 0] 40 x4 := keepO O Z (by omega)
      replace Lp : Lies (w5.heap.size + 1) #[.slice (some ⟨g, 0, none⟩) n c, .slice (some ⟨gh, 0, none⟩) hs.length ch] 40 x4 := keepO O Lp (by omega)
      replace Lq : Lies wr.heap.size #[.slice (some ⟨g, 0, none⟩) n c, .slice (some ⟨gh, 0, none⟩) hs.length ch] 40 x4 := keepO O Lq (by omega)
      replace hD := hD.only O (by omega)
      clear O
      have zq := Lq.lt
      go_wp2_with fail
      refine (box_any (k' + 1 + 1 + 1 + 1) a len cap r (x + 1 + p1) (y + 1 + p2) (1 + p3) (1 + p4) _ (by omega) R (by omega) (by omega) (by omega) (by omega) (by omega) (by omega) (by omega) (by omega)).mono ?_
      clear R
      rintro e x5 ⟨gj, nj, cj, lj, k6, rfl, nj3, nj6, hlj, hownj, hk6, R, O⟩
      obtain ⟨hbj, hncj, hcmj, hbgj⟩ := blk_of_own hownj hlj
      replace P := P.trans O
      replace Z : Lies w.heap.size #[.slice none 0 0, .slice none 0 0] 40 x5 := keepO O Z (by omega)
      replace Lp : Lies (w5.heap.size + 1) #[.slice (some ⟨g, 0, none⟩) n c, .slice (some ⟨gh, 0, none⟩) hs.length ch] 40 x5 := keepO O Lp (by omega)
      replace Lq : Lies wr.heap.size #[.slice (some ⟨g, 0, none⟩) n c, .slice (some ⟨gh, 0, none⟩) hs.length ch] 40 x5 := keepO O Lq (by omega)
      replace hD := hD.only O (by omega)
      clear O hownj d0 d1
      obtain ⟨d0, d1, _, _⟩ := lies2 Lp
      obtain ⟨q0, q1, f0, f1⟩ := lies2 Lq
      have zp := Lp.lt
      have zq5 := Lq.lt
      have hm1 : (x5.alloc (.cells #[] 25)).ownsRow x5.heap.size 25 1 (.slice (some ⟨x5.heap.size, 0, none⟩) 0 0) 0 [] := World.ownsRow_made x5 #[] 0 (Nat.le_refl _) (by simp [maxLen]) rfl
      have hlen : hs.length ≤ 4 := hD.2.1
      have hnw : ∀ j u, (hs.map LoopT.v)[j]? = some u → (x5.alloc (.cells #[] 25)).cell? ((⟨gh, 0, none⟩ : Addr).add j) = some u := fun j u hu => own_news (hD.2.2.1.alloc _) hu
      have LqA := Lq.alloc (.cells #[] 25)
      go_wp2_with (first
        | (at_builtin; refine wpList_append_own_wide _ rfl _ _ _ rfl x5.heap.size 25 i0 _ 1 24 Tryd.underlying38 hi0 hz0 hz1 hz2 rfl (by omega) _ 0 [] rfl hm1 ⟨gh, 0, none⟩ hs.length ch (hs.map LoopT.v) rfl (by simp) hnw (by intro u hu; obtain ⟨t, _, rfl⟩ := List.mem_map.1 hu; rfl) (by simp [maxLen]; omega) (by omega) (by simp) ?_; intro v1 x6 hown1 hgr1 hnil1; have zx6 := hgr1.size; have Lq6 := lies_grown LqA hgr1 (fun e => absurd (Option.some.inj e) (Nat.ne_of_lt zq5)))
        | (at_builtin; refine wpList_append_lies _ rfl _ _ _ rfl x5.heap.size 25 i0 _ 1 24 Tryd.underlying38 hi0 hz0 hz1 hz2 rfl (by omega) _ (0 + hs.length) _ rfl (hown1.alloc _) ⟨x6.heap.size, 0, none⟩ 1 1 [.slice (some ⟨gj, 0, none⟩) nj cj] rfl rfl (World.news_of_block (cs := #[.slice (some ⟨gj, 0, none⟩) nj cj]) (t := 25) (fr := (0, 0)) (heap_alloc_new x6 _)) (by simp [Value.oneCell']) (by omega) (by simp [maxLen]; omega) (by omega) (by simp at zx6 ⊢; omega) (x6.heap.size + 1) (by simp) ?_; intro gg cg x7 hown2 hgr2 hat hlt1; have Lq7 := lies_grown (Lq6.alloc _) hgr2 (fun e => by have := (hown1.lt _ e.symm).1; omega); obtain ⟨s0, s1, sf0, sf1⟩ := lies2 Lq7))
      have B1 : Below x5.heap.size x5 (x5.alloc (.cells #[] 25)) := (by repeat (first | exact bw_refl _ | assumption | apply bw_drewN | apply bw_drew | apply bw_alloc | refine bw_set ?_ (by simp) _))
      have B2 : Below x6.heap.size x6 (x6.alloc (.cells #[.slice (some ⟨gj, 0, none⟩) nj cj] 25)) := (by repeat (first | exact bw_refl _ | assumption | apply bw_drewN | apply bw_drew | apply bw_alloc | refine bw_set ?_ (by simp) _))
      have zx6' : x5.heap.size + 1 ≤ x6.heap.size := by simpa using zx6
      have n2 : ∀ j : Nat, some j = v1.ownBlock → x5.heap.size ≤ j := fun j e => (hown1.lt j e.symm).1
      have O8 : Only wr.heap.size x7 (x7.setCell ⟨wr.heap.size, 1, none⟩ (.slice (some ⟨gg, 0, none⟩) (hs.length + 1) cg)) := (Only.refl wr.heap.size x7).set (.inl rfl) _
      have Lq8 := lies_set1 (z := .slice (some ⟨gg, 0, none⟩) (hs.length + 1) cg) Lq7
      have keep8 : ∀ (t : LoopT), t.ok (w.heap.size + 1) x5 → t.g ≠ wr.heap.size → t.ok (w.heap.size + 1) (x7.setCell ⟨wr.heap.size, 1, none⟩ (.slice (some ⟨gg, 0, none⟩) (hs.length + 1) cg)) := fun t ht hne => by
        have hl : t.g < x5.heap.size := by obtain ⟨_, _, _, _, _, _, h7⟩ := ht; exact h7.lt
        have h1 := (ht.below B1).grown hgr1 (fun e => absurd (Option.some.inj e) (Nat.ne_of_lt hl))
        exact ((h1.below B2).grown hgr2 (fun e => by have := n2 _ e; omega)).only' O8 hne
      have hkeepL : ∀ (b : Nat) (cs : Array Value) (t : TypeId), Lies b cs t x5 → b ≠ wr.heap.size → Lies b cs t (x7.setCell ⟨wr.heap.size, 1, none⟩ (.slice (some ⟨gg, 0, none⟩) (hs.length + 1) cg)) := fun b cs t hL hne => by
        have hl := hL.lt
        have h1 := lies_grown (hL.alloc (.cells #[] 25)) hgr1 (fun e => absurd (Option.some.inj e) (Nat.ne_of_lt hl))
        exact set_oth (lies_grown (h1.alloc (.cells #[.slice (some ⟨gj, 0, none⟩) nj cj] 25)) hgr2 (fun e => by have := n2 _ e; omega)) (by omega)
      have Lp8 := hkeepL _ _ _ Lp (by omega)
      have Z8 := hkeepL _ _ _ Z (by omega)
      have hr8 := own_mono (own_only hown2 O8 zq5) (show w.heap.size + 1 ≤ x5.heap.size by omega)
      have hD8 : PlD (w.heap.size + 1) (x7.setCell ⟨wr.heap.size, 1, none⟩ (.slice (some ⟨gg, 0, none⟩) (hs.length + 1) cg)) ⟨g, n, c, l⟩ (.slice (some ⟨gg, 0, none⟩) (hs.length + 1) cg) (hs ++ [(⟨gj, nj, cj, lj⟩ : LoopT)]) := by
        refine ⟨keep8 _ hD.1 (by show g ≠ _; omega), by simp; omega, ?_, fun t ht => ?_⟩
        · simpa [LoopT.v] using hr8
        · rcases List.mem_append.1 ht with h | h
          · exact keep8 t (hD.2.2.2 t h) (Nat.ne_of_lt (hgs t h))
          · obtain rfl : t = ⟨gj, nj, cj, lj⟩ := by simpa using h
            exact keep8 _ ⟨nj3, by show nj ≤ 8; omega, hlj, hncj, hcmj, by show w.heap.size + 1 ≤ gj; omega, hbj⟩ (by show gj ≠ _; omega)
      have hDo : PlD (w.heap.size + 1) (x7.setCell ⟨wr.heap.size, 1, none⟩ (.slice (some ⟨gg, 0, none⟩) (hs.length + 1) cg)) ⟨g, n, c, l⟩ (.slice (some ⟨gh, 0, none⟩) hs.length ch) hs := by
        refine ⟨hD8.1, hD.2.1, ?_, fun t ht => hD8.2.2.2 t (List.mem_append.2 (.inl ht))⟩
        have h1 := own_grown (own_below hD.2.2.1 B1) hgr1 (fun e => by have e' : gh = x5.heap.size := Option.some.inj e; omega)
        exact own_only' (own_grown (own_below h1 B2) hgr2 (fun e => by have := n2 gh e; omega)) O8 (fun e => by have e' : gh = wr.heap.size := Option.some.inj e; omega)
      have R8 := ((((R.below B1).grown hgr1 (fun j e => by have e' : x5.heap.size = j := Option.some.inj e; omega)).below B2).grown hgr2 (fun j e => by have := n2 j e.symm; omega)).set (p := ⟨wr.heap.size, 1, none⟩) (by show r < wr.heap.size; omega) (.slice (some ⟨gg, 0, none⟩) (hs.length + 1) cg)
      have P8 := ((((P.trans (Only.of_below B1)).grown hgr1 (fun j e => by have e' : x5.heap.size = j := Option.some.inj e; omega)).trans (Only.of_below B2)).grown hgr2 (fun j e => by have := n2 j e.symm; omega)).set (p := ⟨wr.heap.size, 1, none⟩) (.inr (by show w.heap.size ≤ wr.heap.size; omega)) (.slice (some ⟨gg, 0, none⟩) (hs.length + 1) cg)
      have hgg : x5.heap.size ≤ gg := (hown2.lt gg rfl).1
      clear hgr1 hgr2 hown1 hown2 Lq6 Lq7 LqA hm1 hnw O8 keep8 hkeepL hr8 s0 s1 sf0 sf1 d0 d1 q0 q1 f0 f1 R P Z Lp hD hbj B1 B2
      generalize x7.setCell (⟨wr.heap.size, 1, none⟩ : Addr) (Value.slice (some (⟨gg, 0, none⟩ : Addr)) (hs.length + 1) cg) = x8 at *
      have hD8' : PlD (w.heap.size + 1) x8 ⟨g, n, c, l⟩ (.slice (some ⟨gg, 0, none⟩) (hs ++ [(⟨gj, nj, cj, lj⟩ : LoopT)]).length cg) (hs ++ [(⟨gj, nj, cj, lj⟩ : LoopT)]) := by simpa using hD8
      have hplt := hD8'.plt
      simp only [List.length_append, List.length_cons, List.length_nil, Nat.zero_add] at hplt
      refine (sPlateOk_any (some ⟨g, 0, none⟩) (some ⟨gg, 0, none⟩) n c (hs.length + 1) cg l _ _ hplt).mono ?_
      rintro e x9 ⟨rfl, J9⟩
      have Lq9 := Lq8.below J9
      have Lp9 := Lp8.below J9
      have Z9 := Z8.below J9
      have hD9 := hD8.below J9
      have hDo9 := hDo.below J9
      have R9 := R8.below J9
      have P9 := P8.trans (Only.of_below J9)
      clear J9 Lq8 Lp8 Z8 hD8 hD8' hplt R8 P8 hDo
      obtain ⟨q0, q1, f0, f1⟩ := lies2 Lq9
      obtain ⟨d0, d1, f2, f3⟩ := lies2 Lp9
      cases plV l ((hs ++ [(⟨gj, nj, cj, lj⟩ : LoopT)]).map LoopT.l)
      case false =>
        go_wp2_with fail
        go_roundw
        case rel => exact ⟨m - 1, _, hs, k6, rfl, by omega, by omega, ⟨_, _, _, rfl⟩, Lp9, hDo9, by omega, by omega, R9, P9, Z9⟩
        case measure => simp [intOf]; omega
      case true =>
        have hne : ∀ t ∈ hs ++ [(⟨gj, nj, cj, lj⟩ : LoopT)], t.g ≠ w5.heap.size + 1 := fun t ht e => by
          obtain ⟨_, _, _, _, _, _, cur, hc, _⟩ := hD9.2.2.2 t ht
          have hL := Lp9
          unfold Lies at hL
          rw [e, hL] at hc
          simp at hc
        have O1 : Only (w5.heap.size + 1) x9 (x9.setCell ⟨w5.heap.size + 1, 0, none⟩ (.slice (some ⟨g, 0, none⟩) n c)) := (Only.refl (w5.heap.size + 1) x9).set (.inl rfl) _
        have O2 : Only (w5.heap.size + 1) (x9.setCell ⟨w5.heap.size + 1, 0, none⟩ (.slice (some ⟨g, 0, none⟩) n c)) ((x9.setCell ⟨w5.heap.size + 1, 0, none⟩ (.slice (some ⟨g, 0, none⟩) n c)).setCell ⟨w5.heap.size + 1, 1, none⟩ (.slice (some ⟨gg, 0, none⟩) (hs.length + 1) cg)) := (Only.refl (w5.heap.size + 1) _).set (.inl rfl) _
        have hng : Value.ownBlock (.slice (some ⟨gg, 0, none⟩) (hs.length + 1) cg) ≠ some (w5.heap.size + 1) := fun e => by have e' : gg = w5.heap.size + 1 := Option.some.inj e; omega
        have hDn : PlD (w.heap.size + 1) ((x9.setCell ⟨w5.heap.size + 1, 0, none⟩ (.slice (some ⟨g, 0, none⟩) n c)).setCell ⟨w5.heap.size + 1, 1, none⟩ (.slice (some ⟨gg, 0, none⟩) (hs.length + 1) cg)) ⟨g, n, c, l⟩ (.slice (some ⟨gg, 0, none⟩) (hs.length + 1) cg) (hs ++ [(⟨gj, nj, cj, lj⟩ : LoopT)]) :=
          ⟨(hD9.1.only' O1 (by show g ≠ _; omega)).only' O2 (by show g ≠ _; omega), hD9.2.1, own_only' (own_only' hD9.2.2.1 O1 hng) O2 hng, fun t ht => ((hD9.2.2.2 t ht).only' O1 (hne t ht)).only' O2 (hne t ht)⟩
        go_wp2_with fail
        go_roundw
        case rel => exact ⟨m - 1, _, _, k6, rfl, by omega, by omega, ⟨_, _, _, rfl⟩, setB2 Lp9, hDn, by simp; omega, by omega, (R9.set (by show r < w5.heap.size + 1; omega) _).set (by show r < w5.heap.size + 1; omega) _, (P9.set (.inr (by show w.heap.size ≤ w5.heap.size + 1; omega)) _).set (.inr (by show w.heap.size ≤ w5.heap.size + 1; omega)) _, set_oth (set_oth Z9 (by omega)) (by omega)⟩
        case measure => simp [intOf]; omega
end Go.Proofs.YtfnhbdanfnpdeaaDoor
