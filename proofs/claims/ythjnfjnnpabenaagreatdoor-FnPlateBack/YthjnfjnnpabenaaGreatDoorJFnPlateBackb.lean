/-
  OUR OWN TEXT. The law FnPlateBack, for every input: the call returns true, and each argument reads as it did. Texts of ours, joined, so that the claim keeps to its number of files. Conditions: none but the row's own.
-/
import Derived.Test.YthjnfjnnpabenaaGreatDoorDrawLoop
import Derived.Test.YthjnfjnnpabenaaGreatDoorJFnPlateBacka
import Derived.Deep.DeepAppendWide
import Derived.Deep.AppendLies
import Derived.Test.YthjnfjnnpabenaaGreatDoorLuL
import Derived.Test.YthjnfjnnpabenaaGreatDoorSRead
import Derived.Test.YthjnfjnnpabenaaGreatDoorBoxes
import Derived.Test.YthjnfjnnpabenaaGreatDoorReader
import Derived.Test.YthjnfjnnpabenaaGreatDoorOk
import Derived.Test.YthjnfjnnpabenaaGreatDoorSOk
import Derived.Test.YthjnfjnnpabenaaGreatDoorTextW
import Derived.Shelf.Strings.MapGrows
import Derived.Test.YthjnfjnnpabenaaGreatDoorToPts
import Derived.Test.YthjnfjnnpabenaaGreatDoorRoundQ
import Derived.Deep.RegionHeld3
import Derived.Test.YthjnfjnnpabenaaGreatDoorDrawL
import Derived.Test.YthjnfjnnpabenaaGreatDoorItoa
import Derived.Test.YthjnfjnnpabenaaGreatDoorCards
import Derived.Test.YthjnfjnnpabenaaGreatDoorTie
import Derived.ProofKit
import Derived.OpenShut
import Derived.ShutString
import Derived.ChangeOld
import Derived.Below
import Derived.LaidMore
import Derived.MakeChecks
import Derived.Stop.Joined
import Derived.Stop.LaidErr
import Derived.Lib.LaidTab
import Derived.Test.YthjnfjnnpabenaaGreatDoorPlcRead
import Derived.Shelf.Vars
import Derived.HandedShaped
import Derived.Lay
import Derived.Lib.SmallJoins
namespace Go.Proofs.YthjnfjnnpabenaaGreatDoor
open Go.RowKit

/-- Where a drawn loop lies: its block, how many points, how many there is room for. -/
structure LoopT where
  g : Nat
  n : Nat
  c : Nat
  l : List P2
def LoopT.v (t : LoopT) : Value := .slice (some ⟨t.g, 0, none⟩) t.n t.c
def LoopT.ok (base : Nat) (W : World) (t : LoopT) : Prop := 3 ≤ t.n ∧ t.n ≤ 8 ∧ t.l.length = t.n ∧ t.n ≤ t.c ∧ t.c ≤ maxLen ∧ base ≤ t.g ∧ PtBlk W t.g t.c t.l t.n
theorem LoopT.ok.only {base r : Nat} {W W' : World} {t : LoopT} (h : t.ok base W) (O : Only r W W') (hr : r < base) : t.ok base W' := by
  obtain ⟨h1, h2, h3, h4, h5, h6, h7⟩ := h
  exact ⟨h1, h2, h3, h4, h5, h6, blk_only h7 O (by omega)⟩
theorem LoopT.ok.below {base : Nat} {W W' : World} {t : LoopT} (h : t.ok base W) (J : Below W.heap.size W W') : t.ok base W' := by
  obtain ⟨h1, h2, h3, h4, h5, h6, h7⟩ := h
  exact ⟨h1, h2, h3, h4, h5, h6, h7.below J⟩
theorem LoopT.ok.grown {base : Nat} {W W' : World} {t : LoopT} {row : Option Nat} (h : t.ok base W) (hg : W.grownBy W' row) (hne : some t.g ≠ row) : t.ok base W' := by
  obtain ⟨h1, h2, h3, h4, h5, h6, h7⟩ := h
  have hlt := h7.lt
  obtain ⟨cur, hc, hs⟩ := h7
  exact ⟨h1, h2, h3, h4, h5, h6, cur, (hg.block t.g hlt hne).trans hc, hs⟩
theorem own_only {W W' : World} {base r : Nat} {e : TypeId} {size n : Nat} {v : Value} {xs : List Value} (h : W.ownsRow base e size v n xs) (O : Only r W W') (hr : r < base) : W'.ownsRow base e size v n xs :=
  h.kept (row := some r) ⟨O.os, O.tape, O.output, O.size, fun j hj hne => O.block j (fun e => hne (by rw [e])) hj⟩ (.inr (fun e => by have := (h.lt r e).1; omega))
theorem own_below {W W' : World} {base : Nat} {e : TypeId} {size n : Nat} {v : Value} {xs : List Value} (h : W.ownsRow base e size v n xs) (J : Below W.heap.size W W') : W'.ownsRow base e size v n xs :=
  h.kept (row := none) ⟨J.os, J.tape, J.output, J.size, fun j hj _ => J.block j hj⟩ (Classical.em _)
theorem own_slice {W : World} {base : Nat} {e : TypeId} {size n : Nat} {v : Value} {xs : List Value} (h : W.ownsRow base e size v n xs) : ∃ a c, v = .slice a n c := by
  rcases h.2 with ⟨e1, e2⟩ | ⟨g, cap, cur, e1, _⟩
  · exact ⟨none, 0, by rw [e1, e2]⟩
  · exact ⟨_, _, e1⟩
theorem own_news {W : World} {base : Nat} {e : TypeId} {n gh ch : Nat} {xs : List Value} (h : W.ownsRow base e 1 (.slice (some ⟨gh, 0, none⟩) n ch) n xs) {j : Nat} {u : Value} (hu : xs[j]? = some u) : W.cell? ((⟨gh, 0, none⟩ : Addr).add j) = some u := by
  have hx := h.1
  rcases h.2 with ⟨h, _⟩ | ⟨g', c', cur, e, hb, hg, h1, h2, hs, ht⟩
  · cases h
  · cases e
    have hj := (List.getElem?_eq_some_iff.1 hu).1
    rw [← ht, List.getElem?_take_of_lt (by omega), Array.getElem?_toList] at hu
    rw [show ((⟨gh, 0, none⟩ : Addr).add j) = ⟨gh, j, none⟩ by unfold Addr.add; split <;> simp_all, row_cell hg]; exact hu
theorem own_mono {W : World} {base base' : Nat} {e : TypeId} {size n : Nat} {v : Value} {xs : List Value} (h : W.ownsRow base e size v n xs) (hb : base' ≤ base) : W.ownsRow base' e size v n xs := by
  refine ⟨h.1, ?_⟩
  rcases h.2 with h0 | ⟨g, cap, cur, e1, e2, rest⟩
  · exact .inl h0
  · exact .inr ⟨g, cap, cur, e1, by omega, rest⟩
theorem LoopT.ok.only' {base r : Nat} {W W' : World} {t : LoopT} (h : t.ok base W) (O : Only r W W') (hr : t.g ≠ r) : t.ok base W' := by
  obtain ⟨h1, h2, h3, h4, h5, h6, h7⟩ := h
  exact ⟨h1, h2, h3, h4, h5, h6, blk_only h7 O hr⟩
theorem lies_set1 {b : Nat} {x y z : Value} {t : TypeId} {W : World} (h : Lies b #[x, y] t W) : Lies b #[x, z] t (W.setCell ⟨b, 1, none⟩ z) := by
  unfold Lies at h ⊢
  exact setCell_row h z
theorem lies_grown {b : Nat} {cs : Array Value} {t : TypeId} {W W' : World} {row : Option Nat} (h : Lies b cs t W) (hg : W.grownBy W' row) (hne : some b ≠ row) : Lies b cs t W' := by
  have hl := h.lt
  unfold Lies at h ⊢
  exact (hg.block b hl hne).trans h
theorem blk_pts {W : World} {g c n : Nat} {l : List P2} (h : PtBlk W g c l n) (hl : l.length = n) : Pts W.heap.size W (some ⟨g, 0, none⟩) n l := by
  have hg := h.lt
  obtain ⟨cur, h, hs, hc⟩ := h
  refine ⟨hl, .inr ⟨g, 0, rfl, hg, fun j hj => ?_⟩⟩
  rw [Nat.zero_add, row_cell h, row_cell h]; exact hc j hj
theorem own_grown {W W' : World} {base : Nat} {e : TypeId} {size n : Nat} {v : Value} {xs : List Value} {row : Option Nat} (h : W.ownsRow base e size v n xs) (hg : W.grownBy W' row) (hne : v.ownBlock ≠ row) : W'.ownsRow base e size v n xs := h.kept hg (.inr hne)
theorem own_only' {W W' : World} {base r : Nat} {e : TypeId} {size n : Nat} {v : Value} {xs : List Value} (h : W.ownsRow base e size v n xs) (O : Only r W W') (hr : v.ownBlock ≠ some r) : W'.ownsRow base e size v n xs :=
  h.kept (row := some r) ⟨O.os, O.tape, O.output, O.size, fun j hj hne => O.block j (fun e => hne (by rw [e])) hj⟩ (.inr hr)
/-- A slice with an address. -/
def Seat (v : Value) : Prop := ∃ (ad : Addr) (n c : Nat), v = .slice (some ad) n c
theorem own_seat {W : World} {base : Nat} {e : TypeId} {size n : Nat} {v : Value} {xs : List Value} (h : W.ownsRow base e size v n xs) (hs : Seat v) : ∃ g c, v = .slice (some ⟨g, 0, none⟩) n c := by
  rcases h.2 with ⟨e1, e2⟩ | ⟨g, cap, cur, e1, _⟩
  · obtain ⟨ad, n', c, e⟩ := hs; rw [e1] at e; cases e
  · exact ⟨_, _, e1⟩
/-- A drawn plate: its loops, and the row of its holes. -/
def PlD (base : Nat) (W : World) (o : LoopT) (hv : Value) (hs : List LoopT) : Prop :=
  o.ok base W ∧ hs.length ≤ 4 ∧ W.ownsRow base 22 1 hv hs.length (hs.map LoopT.v) ∧ ∀ t ∈ hs, t.ok base W
theorem PlD.only {base r : Nat} {W W' : World} {o : LoopT} {hv : Value} {hs : List LoopT} (h : PlD base W o hv hs) (O : Only r W W') (hr : r < base) : PlD base W' o hv hs :=
  ⟨h.1.only O hr, h.2.1, own_only h.2.2.1 O hr, fun t ht => (h.2.2.2 t ht).only O hr⟩
theorem PlD.below {base : Nat} {W W' : World} {o : LoopT} {hv : Value} {hs : List LoopT} (h : PlD base W o hv hs) (J : Below W.heap.size W W') : PlD base W' o hv hs :=
  ⟨h.1.below J, h.2.1, own_below h.2.2.1 J, fun t ht => (h.2.2.2 t ht).below J⟩
theorem PlD.mono {base base' : Nat} {W : World} {o : LoopT} {hv : Value} {hs : List LoopT} (h : PlD base W o hv hs) (hb : base' ≤ base) : PlD base' W o hv hs := by
  have key : ∀ t : LoopT, t.ok base W → t.ok base' W := fun t ⟨h1, h2, h3, h4, h5, h6, h7⟩ => ⟨h1, h2, h3, h4, h5, by omega, h7⟩
  refine ⟨key _ h.1, h.2.1, ⟨h.2.2.1.1, ?_⟩, fun t ht => key _ (h.2.2.2 t ht)⟩
  rcases h.2.2.1.2 with h0 | ⟨g, cap, cur, e1, e2, rest⟩
  · exact .inl h0
  · exact .inr ⟨g, cap, cur, e1, by omega, rest⟩
theorem PlD.plt {base : Nat} {W : World} {o : LoopT} {gh ch : Nat} {hs : List LoopT} (h : PlD base W o (.slice (some ⟨gh, 0, none⟩) hs.length ch) hs) : Plt W (some ⟨o.g, 0, none⟩) o.n (some ⟨gh, 0, none⟩) hs.length o.l (hs.map LoopT.l) := by
  obtain ⟨⟨h1, h2, h3, h4, h5, h6, h7⟩, _, hr, ht⟩ := h
  refine ⟨by omega, blk_pts h7 h3, by simp, fun j => some ⟨(hs[j]?.map LoopT.g).getD 0, 0, none⟩, fun j => (hs[j]?.map LoopT.n).getD 0, fun j => (hs[j]?.map LoopT.c).getD 0, .inr ⟨gh, 0, rfl, (hr.lt gh rfl).2, fun j hj => ?_⟩, fun j hj => ?_⟩
  · have := own_news hr (j := j) (u := (hs[j]).v) (by simp [hj])
    simp only [List.getElem?_eq_getElem hj, Option.map_some, Option.getD_some]
    rw [show ((⟨gh, 0, none⟩ : Addr).add j) = ⟨gh, j, none⟩ by unfold Addr.add; split <;> simp_all] at this
    rw [Nat.zero_add]; exact this
  · obtain ⟨k1, k2, k3, k4, k5, k6, k7⟩ := ht hs[j] (List.getElem_mem hj)
    simp only [List.getElem?_map, List.getElem?_eq_getElem hj, Option.map_some, Option.getD_some]
    exact ⟨by omega, blk_pts k7 k3⟩
set_option maxRecDepth 100000 in
set_option maxHeartbeats 8000000 in
theorem good_any (k : Nat) (a : Option Addr) (len cap r : Nat) (w : World) (hk : k ≤ 700000) (R : Rd w r k a len cap) :
    Calls Tryz.prog 47 #[.pointer (some ⟨r, 0, none⟩)] w fun e w' => ∃ (o : LoopT) (hv : Value) (hs : List LoopT) (k' : Nat), e = .returned (.agg #[o.v, hv]) ∧ PlD w.heap.size w' o hv hs ∧ (hs.length ≤ 2 ∧ o.n ≤ 7 ∧ Seat hv) ∧ k' ≤ k + 30 ∧ Rd w' r k' a len cap ∧ Only r w w' := by
  obtain ⟨i0, hi0, hz0, hz1, hz2⟩ := info_parts Tryz.infoPts
  have hlt := R.lt
  have P := (Only.refl r w).alloc (.cells #[.slice none 0 0, .slice none 0 0] 25)
  have Z : Lies w.heap.size #[.slice none 0 0, .slice none 0 0] 25 (w.alloc (.cells #[.slice none 0 0, .slice none 0 0] 25)) := Lies.new w _ _
  replace R := R.alloc (.cells #[.slice none 0 0, .slice none 0 0] 25)
  go_enter Tryz.func47, Tryz.ntmps47
  go_wp2_with fail
  refine (pick_rd 3 k a len cap r _ (by omega) (by omega) R).mono ?_
  clear R
  rintro e w1 ⟨x, rfl, xa, xb, R, O⟩
  replace P := P.trans O
  replace Z : Lies w.heap.size #[.slice none 0 0, .slice none 0 0] 25 w1 := keepO O Z (by omega)
  clear O
  go_wp2_with fail
  refine (pick_rd 3 (k + 1) a len cap r _ (by omega) (by omega) R).mono ?_
  clear R
  rintro e w2 ⟨y, rfl, ya, yb, R, O⟩
  replace P := P.trans O
  replace Z : Lies w.heap.size #[.slice none 0 0, .slice none 0 0] 25 w2 := keepO O Z (by omega)
  clear O
  go_wp2_with fail
  refine (pick_rd (9 - x - 3) (k + 1 + 1) a len cap r _ (by omega) (by omega) R).mono ?_
  clear R
  rintro e w3 ⟨u, rfl, ua, ub, R, O⟩
  replace P := P.trans O
  replace Z : Lies w.heap.size #[.slice none 0 0, .slice none 0 0] 25 w3 := keepO O Z (by omega)
  clear O
  go_wp2_with fail
  refine (pick_rd (9 - y - 3) (k + 1 + 1 + 1) a len cap r _ (by omega) (by omega) R).mono ?_
  clear R
  rintro e w4 ⟨v, rfl, va, vb, R, O⟩
  replace P := P.trans O
  replace Z : Lies w.heap.size #[.slice none 0 0, .slice none 0 0] 25 w4 := keepO O Z (by omega)
  clear O
  have z4 := Z.lt
  go_wp2_with fail
  refine (box_any (k + 1 + 1 + 1 + 1) a len cap r x y (4 + u) (4 + v) _ (by omega) R (by omega) (by omega) (by omega) (by omega) (by omega) (by omega) (by omega) (by omega)).mono ?_
  clear R
  rintro e w5 ⟨g, n, c, l, k5, rfl, n3, n6, hl, hown, hk5, R, O⟩
  obtain ⟨hb, hnc, hcm, hbg⟩ := blk_of_own hown hl
  replace P := P.trans O
  replace Z : Lies w.heap.size #[.slice none 0 0, .slice none 0 0] 25 w5 := keepO O Z (by omega)
  clear O hown
  have hgr : g ≠ r := by omega
  have hgw : w.heap.size + 1 ≤ g := by omega
  have z5 := Z.lt
  have zr := R.lt
  have zg := hb.lt
  have ho5 : (⟨g, n, c, l⟩ : LoopT).ok (w.heap.size + 1) w5 := ⟨n3, by show n ≤ 8; omega, hl, hnc, hcm, hgw, hb⟩
  have B6 : Below w5.heap.size w5 ((w5.alloc (.cells #[] 22)).alloc (.cells #[.slice (some ⟨g, 0, none⟩) n c, .slice (some ⟨w5.heap.size, 0, none⟩) 0 0] 25)) := (by repeat (first | exact bw_refl _ | assumption | apply bw_drewN | apply bw_drew | apply bw_alloc | refine bw_set ?_ (by simp) _))
  have hr6 : ((w5.alloc (.cells #[] 22)).alloc (.cells #[.slice (some ⟨g, 0, none⟩) n c, .slice (some ⟨w5.heap.size, 0, none⟩) 0 0] 25)).ownsRow (w.heap.size + 1) 22 1 (.slice (some ⟨w5.heap.size, 0, none⟩) 0 0) 0 [] := (World.ownsRow_made w5 #[] 0 (by omega) (by simp [maxLen]) rfl : (w5.alloc (.cells #[] 22)).ownsRow (w.heap.size + 1) 22 1 (.slice (some ⟨w5.heap.size, 0, none⟩) 0 0) 0 []).alloc _
  have Lp : Lies (w5.heap.size + 1) #[.slice (some ⟨g, 0, none⟩) n c, .slice (some ⟨w5.heap.size, 0, none⟩) 0 0] 25 ((w5.alloc (.cells #[] 22)).alloc (.cells #[.slice (some ⟨g, 0, none⟩) n c, .slice (some ⟨w5.heap.size, 0, none⟩) 0 0] 25)) := heap_new1 w5 _ _
  replace R := R.below B6
  replace P := P.trans (Only.of_below B6)
  replace Z := Z.below B6
  replace ho5 := ho5.below B6
  go_wp2_with fail
  refine (pick_rd 3 k5 a len cap r _ (by omega) (by omega) R).mono ?_
  clear R
  rintro e w6 ⟨m0, rfl, ma, mb, R, O⟩
  replace P := P.trans O
  replace Z : Lies w.heap.size #[.slice none 0 0, .slice none 0 0] 25 w6 := keepO O Z (by omega)
  replace Lp : Lies (w5.heap.size + 1) #[.slice (some ⟨g, 0, none⟩) n c, .slice (some ⟨w5.heap.size, 0, none⟩) 0 0] 25 w6 := keepO O Lp (by omega)
  replace ho5 := ho5.only O (by omega)
  have hr7 : w6.ownsRow (w.heap.size + 1) 22 1 (.slice (some ⟨w5.heap.size, 0, none⟩) 0 0) 0 [] := own_only hr6 O (by omega)
  clear O hr6 hb B6
  go_wp2_with fail
  go_loopw [8] (fun i wr => ∃ (m : Int) (hv : Value) (hs : List LoopT) (k' : Nat), i = .int .i64 m ∧ 0 ≤ m ∧ m ≤ 2 ∧ Seat hv ∧ Lies (w5.heap.size + 1) #[.slice (some ⟨g, 0, none⟩) n c, hv] 25 wr ∧ PlD (w.heap.size + 1) wr ⟨g, n, c, l⟩ hv hs ∧ (hs.length : Int) ≤ 2 - m ∧ (k' : Int) ≤ k5 + 1 + 10 * (2 - m) ∧ Rd wr r k' a len cap ∧ Only r w wr ∧ Lies w.heap.size #[.slice none 0 0, .slice none 0 0] 25 wr) (fun i _ => (intOf i).toNat)
  case atStart => exact ⟨m0, _, [], k5 + 1, rfl, by omega, by omega, ⟨_, _, _, rfl⟩, Lp, ⟨ho5, by simp, hr7, fun t ht => by simp at ht⟩, by simp; omega, by omega, R, P, Z⟩
  case round =>
    obtain ⟨m, hv, hs, k', rfl, m1, m2, hst, Lp, hD, hsl, hk', R, P, Z⟩ := hrel
    by_cases hm : 0 < m
    case neg =>
      obtain rfl : m = 0 := by omega
      obtain ⟨d0, d1, _, _⟩ := lies2 Lp
      obtain ⟨y0, y1, f0, f1⟩ := lies2 Z
      have zZ := Z.lt
      obtain ⟨ah, ch, rfl⟩ : ∃ ah ch, hv = .slice ah hs.length ch := own_slice hD.2.2.1
      have Z1 := setB2 (u0 := .slice (some ⟨g, 0, none⟩) n c) (u1 := .slice ah hs.length ch) Z
      obtain ⟨v0, v1, _, _⟩ := lies2 Z1
      go_wp2_with fail
      refine bodyPost_ret (v := .agg #[.slice (some ⟨g, 0, none⟩) n c, .slice ah hs.length ch]) (by simp [results, Tryz.results47, go_sem, v0, v1]) rfl ?_
      have hD2 := (hD.only ((Only.refl w.heap.size wr).set (p := ⟨w.heap.size, 0, none⟩) (.inl rfl) (.slice (some ⟨g, 0, none⟩) n c)) (by omega)).only ((Only.refl w.heap.size _).set (p := ⟨w.heap.size, 1, none⟩) (.inl rfl) (.slice ah hs.length ch)) (by omega)
      exact ⟨⟨g, n, c, l⟩, _, rfl, hs, hD2.mono (by omega), ⟨by omega, by show n ≤ 7; omega, hst⟩, k', by omega, (R.set (by show r < w.heap.size; omega) _).set (by show r < w.heap.size; omega) _, (P.set (.inr (by show w.heap.size ≤ w.heap.size; omega)) _).set (.inr (by show w.heap.size ≤ w.heap.size; omega)) _⟩
    case pos =>
      have hgs : ∀ t ∈ hs, t.g < wr.heap.size := fun t ht => by obtain ⟨_, _, _, _, _, _, h7⟩ := hD.2.2.2 t ht; exact h7.lt
      have Bq : Below wr.heap.size wr (wr.alloc (.cells #[.slice (some ⟨g, 0, none⟩) n c, hv] 25)) := (by repeat (first | exact bw_refl _ | assumption | apply bw_drewN | apply bw_drew | apply bw_alloc | refine bw_set ?_ (by simp) _))
      have Lq : Lies wr.heap.size #[.slice (some ⟨g, 0, none⟩) n c, hv] 25 (wr.alloc (.cells #[.slice (some ⟨g, 0, none⟩) n c, hv] 25)) := Lies.new wr _ _
      obtain ⟨d0, d1, _, _⟩ := lies2 Lp
      obtain ⟨gh, ch, rfl⟩ : ∃ gh ch, hv = .slice (some ⟨gh, 0, none⟩) hs.length ch := own_seat hD.2.2.1 hst
      have zL := Lp.lt
      have hghw : gh < wr.heap.size := (hD.2.2.1.lt gh rfl).2
      replace Lp := Lp.below Bq
      replace hD := hD.below Bq
      replace R := R.below Bq
      replace P := P.trans (Only.of_below Bq)
      replace Z := Z.below Bq
      go_wp2_with fail
      refine (pick_rd (4 + u - 2) k' a len cap r _ (by omega) (by omega) R).mono ?_
      clear R
      rintro e x1 ⟨p1, rfl, p1a, p1b, R, O⟩
      replace P := P.trans O
      replace Z : Lies w.heap.size #[.slice none 0 0, .slice none 0 0] 25 x1 := keepO O Z (by omega)
      replace Lp : Lies (w5.heap.size + 1) #[.slice (some ⟨g, 0, none⟩) n c, .slice (some ⟨gh, 0, none⟩) hs.length ch] 25 x1 := keepO O Lp (by omega)
      replace Lq : Lies wr.heap.size #[.slice (some ⟨g, 0, none⟩) n c, .slice (some ⟨gh, 0, none⟩) hs.length ch] 25 x1 := keepO O Lq (by omega)
      replace hD := hD.only O (by omega)
      clear O
      go_wp2_with fail
      refine (pick_rd (4 + v - 2) (k' + 1) a len cap r _ (by omega) (by omega) R).mono ?_
      clear R
      rintro e x2 ⟨p2, rfl, p2a, p2b, R, O⟩
      replace P := P.trans O
      replace Z : Lies w.heap.size #[.slice none 0 0, .slice none 0 0] 25 x2 := keepO O Z (by omega)
      replace Lp : Lies (w5.heap.size + 1) #[.slice (some ⟨g, 0, none⟩) n c, .slice (some ⟨gh, 0, none⟩) hs.length ch] 25 x2 := keepO O Lp (by omega)
      replace Lq : Lies wr.heap.size #[.slice (some ⟨g, 0, none⟩) n c, .slice (some ⟨gh, 0, none⟩) hs.length ch] 25 x2 := keepO O Lq (by omega)
      replace hD := hD.only O (by omega)
      clear O
      go_wp2_with fail
      refine (pick_rd (2) (k' + 1 + 1) a len cap r _ (by omega) (by omega) R).mono ?_
      clear R
      rintro e x3 ⟨p3, rfl, p3a, p3b, R, O⟩
      replace P := P.trans O
      replace Z : Lies w.heap.size #[.slice none 0 0, .slice none 0 0] 25 x3 := keepO O Z (by omega)
      replace Lp : Lies (w5.heap.size + 1) #[.slice (some ⟨g, 0, none⟩) n c, .slice (some ⟨gh, 0, none⟩) hs.length ch] 25 x3 := keepO O Lp (by omega)
      replace Lq : Lies wr.heap.size #[.slice (some ⟨g, 0, none⟩) n c, .slice (some ⟨gh, 0, none⟩) hs.length ch] 25 x3 := keepO O Lq (by omega)
      replace hD := hD.only O (by omega)
      clear O
      go_wp2_with fail
      refine (pick_rd (2) (k' + 1 + 1 + 1) a len cap r _ (by omega) (by omega) R).mono ?_
      clear R
      rintro e x4 ⟨p4, rfl, p4a, p4b, R, O⟩
      replace P := P.trans O
      replace Z : Lies w.heap.size #[.slice none 0 0, .slice none 0 0] 25 x4 := keepO O Z (by omega)
      replace Lp : Lies (w5.heap.size + 1) #[.slice (some ⟨g, 0, none⟩) n c, .slice (some ⟨gh, 0, none⟩) hs.length ch] 25 x4 := keepO O Lp (by omega)
      replace Lq : Lies wr.heap.size #[.slice (some ⟨g, 0, none⟩) n c, .slice (some ⟨gh, 0, none⟩) hs.length ch] 25 x4 := keepO O Lq (by omega)
      replace hD := hD.only O (by omega)
      clear O
      have zq := Lq.lt
      go_wp2_with fail
      refine (box_any (k' + 1 + 1 + 1 + 1) a len cap r (x + 1 + p1) (y + 1 + p2) (1 + p3) (1 + p4) _ (by omega) R (by omega) (by omega) (by omega) (by omega) (by omega) (by omega) (by omega) (by omega)).mono ?_
      clear R
      rintro e x5 ⟨gj, nj, cj, lj, k6, rfl, nj3, nj6, hlj, hownj, hk6, R, O⟩
      obtain ⟨hbj, hncj, hcmj, hbgj⟩ := blk_of_own hownj hlj
      replace P := P.trans O
      replace Z : Lies w.heap.size #[.slice none 0 0, .slice none 0 0] 25 x5 := keepO O Z (by omega)
      replace Lp : Lies (w5.heap.size + 1) #[.slice (some ⟨g, 0, none⟩) n c, .slice (some ⟨gh, 0, none⟩) hs.length ch] 25 x5 := keepO O Lp (by omega)
      replace Lq : Lies wr.heap.size #[.slice (some ⟨g, 0, none⟩) n c, .slice (some ⟨gh, 0, none⟩) hs.length ch] 25 x5 := keepO O Lq (by omega)
      replace hD := hD.only O (by omega)
      clear O hownj d0 d1
      obtain ⟨d0, d1, _, _⟩ := lies2 Lp
      obtain ⟨q0, q1, f0, f1⟩ := lies2 Lq
      have zp := Lp.lt
      have zq5 := Lq.lt
      have hm1 : (x5.alloc (.cells #[] 22)).ownsRow x5.heap.size 22 1 (.slice (some ⟨x5.heap.size, 0, none⟩) 0 0) 0 [] := World.ownsRow_made x5 #[] 0 (Nat.le_refl _) (by simp [maxLen]) rfl
      have hlen : hs.length ≤ 4 := hD.2.1
      have hnw : ∀ j u, (hs.map LoopT.v)[j]? = some u → (x5.alloc (.cells #[] 22)).cell? ((⟨gh, 0, none⟩ : Addr).add j) = some u := fun j u hu => own_news (hD.2.2.1.alloc _) hu
      have LqA := Lq.alloc (.cells #[] 22)
      go_wp2_with (first
        | (at_builtin; refine wpList_append_own_wide _ rfl _ _ _ rfl x5.heap.size 22 i0 _ 1 24 Tryz.underlying23 hi0 hz0 hz1 hz2 rfl (by omega) _ 0 [] rfl hm1 ⟨gh, 0, none⟩ hs.length ch (hs.map LoopT.v) rfl (by simp) hnw (by intro u hu; obtain ⟨t, _, rfl⟩ := List.mem_map.1 hu; rfl) (by simp [maxLen]; omega) (by omega) (by simp) ?_; intro v1 x6 hown1 hgr1 hnil1; have zx6 := hgr1.size; have Lq6 := lies_grown LqA hgr1 (fun e => absurd (Option.some.inj e) (Nat.ne_of_lt zq5)))
        | (at_builtin; refine wpList_append_lies _ rfl _ _ _ rfl x5.heap.size 22 i0 _ 1 24 Tryz.underlying23 hi0 hz0 hz1 hz2 rfl (by omega) _ (0 + hs.length) _ rfl (hown1.alloc _) ⟨x6.heap.size, 0, none⟩ 1 1 [.slice (some ⟨gj, 0, none⟩) nj cj] rfl rfl (World.news_of_block (cs := #[.slice (some ⟨gj, 0, none⟩) nj cj]) (t := 22) (fr := (0, 0)) (heap_alloc_new x6 _)) (by simp [Value.oneCell']) (by omega) (by simp [maxLen]; omega) (by omega) (by simp at zx6 ⊢; omega) (x6.heap.size + 1) (by simp) ?_; intro gg cg x7 hown2 hgr2 hat hlt1; have Lq7 := lies_grown (Lq6.alloc _) hgr2 (fun e => by have := (hown1.lt _ e.symm).1; omega); obtain ⟨s0, s1, sf0, sf1⟩ := lies2 Lq7))
      have B1 : Below x5.heap.size x5 (x5.alloc (.cells #[] 22)) := (by repeat (first | exact bw_refl _ | assumption | apply bw_drewN | apply bw_drew | apply bw_alloc | refine bw_set ?_ (by simp) _))
      have B2 : Below x6.heap.size x6 (x6.alloc (.cells #[.slice (some ⟨gj, 0, none⟩) nj cj] 22)) := (by repeat (first | exact bw_refl _ | assumption | apply bw_drewN | apply bw_drew | apply bw_alloc | refine bw_set ?_ (by simp) _))
      have zx6' : x5.heap.size + 1 ≤ x6.heap.size := by simpa using zx6
      have n2 : ∀ j : Nat, some j = v1.ownBlock → x5.heap.size ≤ j := fun j e => (hown1.lt j e.symm).1
      have O8 : Only wr.heap.size x7 (x7.setCell ⟨wr.heap.size, 1, none⟩ (.slice (some ⟨gg, 0, none⟩) (hs.length + 1) cg)) := (Only.refl wr.heap.size x7).set (.inl rfl) _
      have Lq8 := lies_set1 (z := .slice (some ⟨gg, 0, none⟩) (hs.length + 1) cg) Lq7
      have keep8 : ∀ (t : LoopT), t.ok (w.heap.size + 1) x5 → t.g ≠ wr.heap.size → t.ok (w.heap.size + 1) (x7.setCell ⟨wr.heap.size, 1, none⟩ (.slice (some ⟨gg, 0, none⟩) (hs.length + 1) cg)) := fun t ht hne => by
        have hl : t.g < x5.heap.size := by obtain ⟨_, _, _, _, _, _, h7⟩ := ht; exact h7.lt
        have h1 := (ht.below B1).grown hgr1 (fun e => absurd (Option.some.inj e) (Nat.ne_of_lt hl))
        exact ((h1.below B2).grown hgr2 (fun e => by have := n2 _ e; omega)).only' O8 hne
      have hkeepL : ∀ (b : Nat) (cs : Array Value) (t : TypeId), Lies b cs t x5 → b ≠ wr.heap.size → Lies b cs t (x7.setCell ⟨wr.heap.size, 1, none⟩ (.slice (some ⟨gg, 0, none⟩) (hs.length + 1) cg)) := fun b cs t hL hne => by
        have hl := hL.lt
        have h1 := lies_grown (hL.alloc (.cells #[] 22)) hgr1 (fun e => absurd (Option.some.inj e) (Nat.ne_of_lt hl))
        exact set_oth (lies_grown (h1.alloc (.cells #[.slice (some ⟨gj, 0, none⟩) nj cj] 22)) hgr2 (fun e => by have := n2 _ e; omega)) (by omega)
      have Lp8 := hkeepL _ _ _ Lp (by omega)
      have Z8 := hkeepL _ _ _ Z (by omega)
      have hr8 := own_mono (own_only hown2 O8 zq5) (show w.heap.size + 1 ≤ x5.heap.size by omega)
      have hD8 : PlD (w.heap.size + 1) (x7.setCell ⟨wr.heap.size, 1, none⟩ (.slice (some ⟨gg, 0, none⟩) (hs.length + 1) cg)) ⟨g, n, c, l⟩ (.slice (some ⟨gg, 0, none⟩) (hs.length + 1) cg) (hs ++ [(⟨gj, nj, cj, lj⟩ : LoopT)]) := by
        refine ⟨keep8 _ hD.1 (by show g ≠ _; omega), by simp; omega, ?_, fun t ht => ?_⟩
        · simpa [LoopT.v] using hr8
        · rcases List.mem_append.1 ht with h | h
          · exact keep8 t (hD.2.2.2 t h) (Nat.ne_of_lt (hgs t h))
          · obtain rfl : t = ⟨gj, nj, cj, lj⟩ := by simpa using h
            exact keep8 _ ⟨nj3, by show nj ≤ 8; omega, hlj, hncj, hcmj, by show w.heap.size + 1 ≤ gj; omega, hbj⟩ (by show gj ≠ _; omega)
      have hDo : PlD (w.heap.size + 1) (x7.setCell ⟨wr.heap.size, 1, none⟩ (.slice (some ⟨gg, 0, none⟩) (hs.length + 1) cg)) ⟨g, n, c, l⟩ (.slice (some ⟨gh, 0, none⟩) hs.length ch) hs := by
        refine ⟨hD8.1, hD.2.1, ?_, fun t ht => hD8.2.2.2 t (List.mem_append.2 (.inl ht))⟩
        have h1 := own_grown (own_below hD.2.2.1 B1) hgr1 (fun e => by have e' : gh = x5.heap.size := Option.some.inj e; omega)
        exact own_only' (own_grown (own_below h1 B2) hgr2 (fun e => by have := n2 gh e; omega)) O8 (fun e => by have e' : gh = wr.heap.size := Option.some.inj e; omega)
      have R8 := ((((R.below B1).grown hgr1 (fun j e => by have e' : x5.heap.size = j := Option.some.inj e; omega)).below B2).grown hgr2 (fun j e => by have := n2 j e.symm; omega)).set (p := ⟨wr.heap.size, 1, none⟩) (by show r < wr.heap.size; omega) (.slice (some ⟨gg, 0, none⟩) (hs.length + 1) cg)
      have P8 := ((((P.trans (Only.of_below B1)).grown hgr1 (fun j e => by have e' : x5.heap.size = j := Option.some.inj e; omega)).trans (Only.of_below B2)).grown hgr2 (fun j e => by have := n2 j e.symm; omega)).set (p := ⟨wr.heap.size, 1, none⟩) (.inr (by show w.heap.size ≤ wr.heap.size; omega)) (.slice (some ⟨gg, 0, none⟩) (hs.length + 1) cg)
      have hgg : x5.heap.size ≤ gg := (hown2.lt gg rfl).1
      clear hgr1 hgr2 hown1 hown2 Lq6 Lq7 LqA hm1 hnw O8 keep8 hkeepL hr8 s0 s1 sf0 sf1 d0 d1 q0 q1 f0 f1 R P Z Lp hD hbj B1 B2
      generalize x7.setCell (⟨wr.heap.size, 1, none⟩ : Addr) (Value.slice (some (⟨gg, 0, none⟩ : Addr)) (hs.length + 1) cg) = x8 at *
      have hD8' : PlD (w.heap.size + 1) x8 ⟨g, n, c, l⟩ (.slice (some ⟨gg, 0, none⟩) (hs ++ [(⟨gj, nj, cj, lj⟩ : LoopT)]).length cg) (hs ++ [(⟨gj, nj, cj, lj⟩ : LoopT)]) := by simpa using hD8
      have hplt := hD8'.plt
      simp only [List.length_append, List.length_cons, List.length_nil, Nat.zero_add] at hplt
      refine (sPlateOk_any (some ⟨g, 0, none⟩) (some ⟨gg, 0, none⟩) n c (hs.length + 1) cg l _ _ hplt).mono ?_
      rintro e x9 ⟨rfl, J9⟩
      have Lq9 := Lq8.below J9
      have Lp9 := Lp8.below J9
      have Z9 := Z8.below J9
      have hD9 := hD8.below J9
      have hDo9 := hDo.below J9
      have R9 := R8.below J9
      have P9 := P8.trans (Only.of_below J9)
      clear J9 Lq8 Lp8 Z8 hD8 hD8' hplt R8 P8 hDo
      obtain ⟨q0, q1, f0, f1⟩ := lies2 Lq9
      obtain ⟨d0, d1, f2, f3⟩ := lies2 Lp9
      cases plV l ((hs ++ [(⟨gj, nj, cj, lj⟩ : LoopT)]).map LoopT.l)
      case false =>
        go_wp2_with fail
        go_roundw
        case rel => exact ⟨m - 1, _, hs, k6, rfl, by omega, by omega, ⟨_, _, _, rfl⟩, Lp9, hDo9, by omega, by omega, R9, P9, Z9⟩
        case measure => simp [intOf]; omega
      case true =>
        have hne : ∀ t ∈ hs ++ [(⟨gj, nj, cj, lj⟩ : LoopT)], t.g ≠ w5.heap.size + 1 := fun t ht e => by
          obtain ⟨_, _, _, _, _, _, cur, hc, _⟩ := hD9.2.2.2 t ht
          have hL := Lp9
          unfold Lies at hL
          rw [e, hL] at hc
          simp at hc
        have O1 : Only (w5.heap.size + 1) x9 (x9.setCell ⟨w5.heap.size + 1, 0, none⟩ (.slice (some ⟨g, 0, none⟩) n c)) := (Only.refl (w5.heap.size + 1) x9).set (.inl rfl) _
        have O2 : Only (w5.heap.size + 1) (x9.setCell ⟨w5.heap.size + 1, 0, none⟩ (.slice (some ⟨g, 0, none⟩) n c)) ((x9.setCell ⟨w5.heap.size + 1, 0, none⟩ (.slice (some ⟨g, 0, none⟩) n c)).setCell ⟨w5.heap.size + 1, 1, none⟩ (.slice (some ⟨gg, 0, none⟩) (hs.length + 1) cg)) := (Only.refl (w5.heap.size + 1) _).set (.inl rfl) _
        have hng : Value.ownBlock (.slice (some ⟨gg, 0, none⟩) (hs.length + 1) cg) ≠ some (w5.heap.size + 1) := fun e => by have e' : gg = w5.heap.size + 1 := Option.some.inj e; omega
        have hDn : PlD (w.heap.size + 1) ((x9.setCell ⟨w5.heap.size + 1, 0, none⟩ (.slice (some ⟨g, 0, none⟩) n c)).setCell ⟨w5.heap.size + 1, 1, none⟩ (.slice (some ⟨gg, 0, none⟩) (hs.length + 1) cg)) ⟨g, n, c, l⟩ (.slice (some ⟨gg, 0, none⟩) (hs.length + 1) cg) (hs ++ [(⟨gj, nj, cj, lj⟩ : LoopT)]) :=
          ⟨(hD9.1.only' O1 (by show g ≠ _; omega)).only' O2 (by show g ≠ _; omega), hD9.2.1, own_only' (own_only' hD9.2.2.1 O1 hng) O2 hng, fun t ht => ((hD9.2.2.2 t ht).only' O1 (hne t ht)).only' O2 (hne t ht)⟩
        go_wp2_with fail
        go_roundw
        case rel => exact ⟨m - 1, _, _, k6, rfl, by omega, by omega, ⟨_, _, _, rfl⟩, setB2 Lp9, hDn, by simp; omega, by omega, (R9.set (by show r < w5.heap.size + 1; omega) _).set (by show r < w5.heap.size + 1; omega) _, (P9.set (.inr (by show w.heap.size ≤ w5.heap.size + 1; omega)) _).set (.inr (by show w.heap.size ≤ w5.heap.size + 1; omega)) _, set_oth (set_oth Z9 (by omega)) (by omega)⟩
        case measure => simp [intOf]; omega
end Go.Proofs.YthjnfjnnpabenaaGreatDoor
namespace Go.Proofs.YthjnfjnnpabenaaGreatDoor
open Go.RowKit Go.Sort

/-- A loop's points in a block of our own. -/
def LoopT.al (W : World) (t : LoopT) : Prop := 1 ≤ t.n ∧ t.n ≤ 1001 ∧ t.l.length = t.n ∧ t.n ≤ t.c ∧ PtBlk W t.g t.c t.l t.n
theorem LoopT.al.below {W W' : World} {t : LoopT} (h : t.al W) (J : Below W.heap.size W W') : t.al W' := ⟨h.1, h.2.1, h.2.2.1, h.2.2.2.1, h.2.2.2.2.below J⟩
theorem LoopT.al.only {r : Nat} {W W' : World} {t : LoopT} (h : t.al W) (O : Only r W W') (hr : t.g ≠ r) : t.al W' := ⟨h.1, h.2.1, h.2.2.1, h.2.2.2.1, blk_only h.2.2.2.2 O hr⟩
theorem LoopT.al.grown {W W' : World} {t : LoopT} {row : Option Nat} (h : t.al W) (hg : W.grownBy W' row) (hne : some t.g ≠ row) : t.al W' := ⟨h.1, h.2.1, h.2.2.1, h.2.2.2.1, blk_grown h.2.2.2.2 hg hne⟩
theorem LoopT.al.lt {W : World} {t : LoopT} (h : t.al W) : t.g < W.heap.size := h.2.2.2.2.lt
theorem LoopT.al.ne_own {W : World} {t : LoopT} {base n : Nat} {v : Value} {xs : List Value} (h : t.al W) (ho : W.ownsRow base 22 1 v n xs) : some t.g ≠ v.ownBlock := by
  intro e
  rcases ho.2 with ⟨e1, e2⟩ | ⟨g', c', cur', e1, hb, hg, _⟩
  · subst e1; simp [Value.ownBlock] at e
  · subst e1
    obtain ⟨cur, hc, _⟩ := h.2.2.2.2
    have e' : t.g = g' := Option.some.inj e
    rw [e', hg] at hc; simp at hc
theorem LoopT.al.ne_box {W : World} {t : LoopT} {b : Nat} {cs : Array Value} (h : t.al W) (hL : Lies b cs 25 W) : t.g ≠ b := by
  intro e
  obtain ⟨cur, hc, _⟩ := h.2.2.2.2
  unfold Lies at hL
  rw [e, hL] at hc; simp at hc
theorem own_ne_pl {W : World} {b base n : Nat} {cs : Array Value} {v : Value} {xs : List Value} (ho : W.ownsRow base 22 1 v n xs) (hL : Lies b cs 25 W) : v.ownBlock ≠ some b := by
  intro e
  rcases ho.2 with ⟨e1, e2⟩ | ⟨g', c', cur', e1, hb, hg, _⟩
  · subst e1; simp [Value.ownBlock] at e
  · subst e1
    have e' : g' = b := Option.some.inj e
    unfold Lies at hL
    rw [e', hL] at hg; simp at hg
/-- Points that are read lie in a loop's block. -/
theorem loopT_of {base : Nat} {W : World} {v : Value} {l : List P2} (h : W.ownsRow base 73 2 v l.length (ptCells l)) (h0 : 1 ≤ l.length) (h1 : l.length ≤ 1001) : ∃ t : LoopT, v = t.v ∧ t.l = l ∧ t.al W ∧ base ≤ t.g := by
  obtain ⟨g, c, rfl, _, _⟩ := h.form (by omega)
  obtain ⟨hb, h2, h3, h4⟩ := blk_of_own h rfl
  exact ⟨⟨g, l.length, c, l⟩, rfl, rfl, ⟨h0, h1, rfl, h2, hb⟩, h4⟩
/-- The holes of a plate: a row of our own, each loop in a block of its own. -/
def HsG (base : Nat) (W : World) (hv : Value) (hs : List LoopT) : Prop := W.ownsRow base 22 1 hv hs.length (hs.map LoopT.v) ∧ ∀ t ∈ hs, t.al W ∧ base ≤ t.g
def PlG (base : Nat) (W : World) (o : LoopT) (hv : Value) (hs : List LoopT) : Prop := (o.al W ∧ base ≤ o.g) ∧ HsG base W hv hs ∧ (o.g :: hs.map LoopT.g).Nodup
theorem HsG.below {base : Nat} {W W' : World} {hv : Value} {hs : List LoopT} (h : HsG base W hv hs) (J : Below W.heap.size W W') : HsG base W' hv hs := ⟨own_below h.1 J, fun t ht => ⟨(h.2 t ht).1.below J, (h.2 t ht).2⟩⟩
theorem PlG.below {base : Nat} {W W' : World} {o : LoopT} {hv : Value} {hs : List LoopT} (h : PlG base W o hv hs) (J : Below W.heap.size W W') : PlG base W' o hv hs := ⟨⟨h.1.1.below J, h.1.2⟩, h.2.1.below J, h.2.2⟩
theorem HsG.only {base r : Nat} {W W' : World} {hv : Value} {hs : List LoopT} (h : HsG base W hv hs) (O : Only r W W') (hr : hv.ownBlock ≠ some r) (ht : ∀ t ∈ hs, t.g ≠ r) : HsG base W' hv hs := ⟨own_only' h.1 O hr, fun t hh => ⟨(h.2 t hh).1.only O (ht t hh), (h.2 t hh).2⟩⟩
theorem PlG.only {base r : Nat} {W W' : World} {o : LoopT} {hv : Value} {hs : List LoopT} (h : PlG base W o hv hs) (O : Only r W W') (hr : hv.ownBlock ≠ some r) (ht : ∀ t, t = o ∨ t ∈ hs → t.g ≠ r) : PlG base W' o hv hs :=
  ⟨⟨h.1.1.only O (ht _ (.inl rfl)), h.1.2⟩, h.2.1.only O hr (fun t hh => ht t (.inr hh)), h.2.2⟩
theorem PlG.box {base b : Nat} {W W' : World} {o : LoopT} {hv : Value} {hs : List LoopT} {cs : Array Value} (h : PlG base W o hv hs) (hL : Lies b cs 25 W) (O : Only b W W') : PlG base W' o hv hs :=
  h.only O (own_ne_pl h.2.1.1 hL) (fun t ht => by
    rcases ht with rfl | ht
    · exact h.1.1.ne_box hL
    · exact (h.2.1.2 t ht).1.ne_box hL)
theorem PlG.mono {base base' : Nat} {W : World} {o : LoopT} {hv : Value} {hs : List LoopT} (h : PlG base W o hv hs) (hb : base' ≤ base) : PlG base' W o hv hs :=
  ⟨⟨h.1.1, Nat.le_trans hb h.1.2⟩, ⟨own_mono h.2.1.1 hb, fun t ht => ⟨(h.2.1.2 t ht).1, Nat.le_trans hb (h.2.1.2 t ht).2⟩⟩, h.2.2⟩
theorem PlG.plt {base : Nat} {W : World} {o : LoopT} {hv : Value} {hs : List LoopT} (h : PlG base W o hv hs) : ∃ ah ch, hv = .slice ah hs.length ch ∧ Plt W (some ⟨o.g, 0, none⟩) o.n ah hs.length o.l (hs.map LoopT.l) := by
  obtain ⟨⟨⟨h1, h2, h3, h4, h7⟩, _⟩, ⟨hr, ht⟩, _⟩ := h
  rcases hr.2 with ⟨e1, e2⟩ | ⟨gh, ch, cur, e1, hb, hg, _⟩
  · obtain rfl : hs = [] := List.eq_nil_of_length_eq_zero e2
    exact ⟨none, 0, e1, by omega, blk_pts h7 h3, rfl, fun _ => none, fun _ => 0, fun _ => 0, .inl rfl, fun j hj => by simp at hj⟩
  · subst e1
    refine ⟨_, _, rfl, by omega, blk_pts h7 h3, by simp, fun j => some ⟨(hs[j]?.map LoopT.g).getD 0, 0, none⟩, fun j => (hs[j]?.map LoopT.n).getD 0, fun j => (hs[j]?.map LoopT.c).getD 0, .inr ⟨gh, 0, rfl, (hr.lt gh rfl).2, fun j hj => ?_⟩, fun j hj => ?_⟩
    · have := own_news hr (j := j) (u := (hs[j]).v) (by simp [hj])
      simp only [List.getElem?_eq_getElem hj, Option.map_some, Option.getD_some]
      rw [show ((⟨gh, 0, none⟩ : Addr).add j) = ⟨gh, j, none⟩ by unfold Addr.add; split <;> simp_all] at this
      rw [Nat.zero_add]; exact this
    · obtain ⟨⟨k1, k2, k3, k4, k7⟩, _⟩ := ht hs[j] (List.getElem_mem hj)
      simp only [List.getElem?_map, List.getElem?_eq_getElem hj, Option.map_some, Option.getD_some]
      exact ⟨by omega, blk_pts k7 k3⟩
/-- What the reading of a plate hands back. -/
def PlAns (base : Nat) (W : World) (v : Value) (r : Option (List (List P2))) : Prop :=
  match r with
  | some (o :: hs) => ∃ (t : LoopT) (hv : Value) (ts : List LoopT), v = .agg #[t.v, hv] ∧ PlG base W t hv ts ∧ t.l = o ∧ ts.map LoopT.l = hs
  | _ => v = .agg #[.slice none 0 0, .slice none 0 0]
theorem PlAns.below {base : Nat} {W W' : World} {v : Value} {r : Option (List (List P2))} (h : PlAns base W v r) (J : Below W.heap.size W W') : PlAns base W' v r := by
  unfold PlAns at h ⊢
  split at h
  · obtain ⟨t, hv, ts, e, hP, e1, e2⟩ := h
    exact ⟨t, hv, ts, e, hP.below J, e1, e2⟩
  · exact h
/-- The outer loop, and the holes, of what is read. -/
def outP (r : Option (List (List P2))) : List P2 := match r with
  | some (o :: _) => o
  | _ => []
def holP (r : Option (List (List P2))) : List (List P2) := match r with
  | some (_ :: hs) => hs
  | _ => []
theorem PlAns.plt {base : Nat} {W : World} {v : Value} {r : Option (List (List P2))} (h : PlAns base W v r) : ∃ a c ah ch, v = .agg #[.slice a (outP r).length c, .slice ah (holP r).length ch] ∧ Plt W a (outP r).length ah (holP r).length (outP r) (holP r) := by
  have none' : v = .agg #[.slice none 0 0, .slice none 0 0] → outP r = [] → holP r = [] → ∃ a c ah ch, v = .agg #[.slice a (outP r).length c, .slice ah (holP r).length ch] ∧ Plt W a (outP r).length ah (holP r).length (outP r) (holP r) := fun h e1 e2 => by
    rw [e1, e2]
    exact ⟨none, 0, none, 0, h, by simp, ⟨rfl, .inl rfl⟩, rfl, fun _ => none, fun _ => 0, fun _ => 0, .inl rfl, fun j hj => by simp at hj⟩
  rcases r with _ | (_ | ⟨o, hs⟩)
  · exact none' h rfl rfl
  · exact none' h rfl rfl
  · obtain ⟨t, hv, ts, rfl, hP, e1, e2⟩ := h
    obtain ⟨ah, ch, rfl, hp⟩ := hP.plt
    have e3 : t.n = o.length := by rw [← e1]; exact hP.1.1.2.2.1.symm
    have e4 : ts.length = hs.length := by rw [← e2, List.length_map]
    refine ⟨some ⟨t.g, 0, none⟩, t.c, ah, ch, ?_, ?_⟩
    · show Value.agg #[.slice _ t.n t.c, .slice ah ts.length ch] = _
      rw [e3, e4]; rfl
    · rw [e1, e2, e3, e4] at hp; exact hp
end Go.Proofs.YthjnfjnnpabenaaGreatDoor
namespace Go.Proofs.YthjnfjnnpabenaaGreatDoor
open Go.RowKit Go.Sort

theorem ba_empty (x : List UInt8) : (ByteArray.mk x.toArray).toList.isEmpty = x.isEmpty := by rw [Lib.toList_data]
/-- A plate as far as its loops have been read. -/
def PlUp (base : Nat) (W : World) (ov hv : Value) (ls : List (List P2)) : Prop :=
  match ls with
  | [] => ov = .slice none 0 0 ∧ HsG base W hv []
  | o :: hs => ∃ (t : LoopT) (ts : List LoopT), ov = t.v ∧ PlG base W t hv ts ∧ t.l = o ∧ ts.map LoopT.l = hs
theorem readPl_nl {z : List UInt8} {xs : List (List UInt8)} {x : List UInt8} (h : cutL 10 z = xs ++ [x]) (hx : ¬ (x = [] ∧ 1 ≤ xs.length)) : readPl z = none := by
  unfold readPl lnP
  rw [h]
  by_cases e : x = []
  · subst e
    have : xs = [] := by
      cases xs with
      | nil => rfl
      | cons _ _ => exact absurd ⟨rfl, by simp⟩ hx
    subst this
    split <;> rfl
  · rw [linesP_no xs e]
    split <;> rfl
theorem readPl_rd {z : List UInt8} {xs : List (List UInt8)} (hz : z.length ≤ 120) (h : cutL 10 z = xs ++ [[]]) : readPl z = match rdP xs with
    | some (o :: hs) => if plV o hs = true then some (o :: hs) else none
    | _ => none := by
  unfold readPl lnP
  rw [if_pos hz, h, linesP_nil]
  rfl
theorem words_ne {x : List UInt8} {l : List P2} (h : wordsP (cutL 32 x) = some l) : 1 ≤ l.length := by rw [wordsP_len h]; exact List.length_pos_iff.2 (cutL_ne _ _)
theorem lies_p0 {b : Nat} {x y : Value} {t : TypeId} {W : World} (h : Lies b #[x, y] t W) (v : Value) : Lies b #[v, y] t (W.setCell ⟨b, 0, none⟩ v) := by
  unfold Lies at h ⊢
  rw [setCell_row h v]
  simp
set_option maxRecDepth 100000 in
set_option maxHeartbeats 4000000 in
theorem sPlateRead_ok (s : ByteArray) (hs : s.size ≤ 1048576) (w : World) :
    Calls Tryz.prog 6 #[.string s] w fun e w' => ∃ v, e = .returned (.tuple #[v, .bool (readPl s.data.toList).isSome]) ∧ PlAns w.heap.size w' v (readPl s.data.toList) ∧ Below w.heap.size w w' := by
  obtain ⟨i0, hi0, hz0, hz1, hz2⟩ := info_parts Tryz.infoPts
  obtain ⟨W, hW, BW, T⟩ : ∃ W, W = w.alloc (.cells #[.slice none 0 0, .slice none 0 0] 25) ∧ Below w.heap.size w W ∧ W.heap[w.heap.size]? = some (.cells #[.slice none 0 0, .slice none 0 0] 25 (0, 0)) := ⟨_, rfl, (by repeat (first | exact bw_refl _ | assumption | apply bw_drewN | apply bw_drew | apply bw_alloc | refine bw_set ?_ (by simp) _)), heap_new _ _⟩
  have zW : W.heap.size = w.heap.size + 1 := by rw [hW]; simp
  have esz : s.data.toList.length = s.size := Array.length_toList
  by_cases h120 : s.size ≤ 120
  case neg =>
    have e1 : Hid (readPl s.data.toList = none) := readPl_long (by omega)
    have h120' : ((120 : Int) < (s.size : Int)) := by omega
    go_enter Tryz.func6, Tryz.ntmps6
    go_upto_region 1 with fail
    rw [← hW]
    clear hW
    obtain ⟨y0, y1, g0, g1⟩ := blk2 T
    have Z3 := setB2 (u0 := .slice none 0 0) (u1 := .slice none 0 0) T
    obtain ⟨v0, v1, _, _⟩ := blk2 Z3
    go_wp2_with fail
    refine bodyPost_ret (v := .tuple #[.agg #[.slice none 0 0, .slice none 0 0], .bool false]) (by simp [results, Tryz.results6, go_sem, v0, v1]) rfl ?_
    exact ⟨_, by rw [e1.out]; rfl, by rw [e1.out]; rfl, (Below.setCell (p := ⟨w.heap.size, 0, none⟩) BW (Nat.le_refl _) _).setCell (p := ⟨w.heap.size, 1, none⟩) (Nat.le_refl _) _⟩
  case pos =>
  have h120' : ¬ ((120 : Int) < (s.size : Int)) := by omega
  obtain ⟨xs, x, hxs, _⟩ := lnP_spec s.data.toList
  have hcut := sCut_ok s 10 (by omega) W
  have HX : Hid (cutL 10 s.data.toList = xs ++ [x]) := hxs
  have hsm : ∀ y ∈ xs, y.length ≤ 120 := fun y hy => by
    have := cutL_word 10 s.data.toList y (by rw [hxs]; exact List.mem_append_left _ hy)
    omega
  have hxn := cutL_len 10 s.data.toList
  rw [hxs, List.length_append, List.length_singleton] at hxn
  rw [hxs, List.length_append, List.length_singleton] at hcut
  obtain ⟨nn, hnn⟩ : ∃ nn, xs.length = nn := ⟨_, rfl⟩
  have HNN : Hid (xs.length = nn) := hnn
  have HSM : Hid (∀ y ∈ xs, y.length ≤ 120) := hsm
  rw [hnn] at hcut hxn
  have hnb : nn ≤ 120 := by omega
  clear hxs hsm hnn hxn
  go_enter Tryz.func6, Tryz.ntmps6
  go_upto_region 1 with fail
  rw [← hW]
  clear hW
  go_wp2_with fail
  refine hcut.mono ?_
  clear hcut
  rintro e w1 ⟨v, rfl, ho, J⟩
  obtain ⟨g, cap, rfl, hg, _⟩ := ho.form (by omega)
  have T1 := keep J T
  have K1 := bw_trans BW J
  have zT1 := blk_lt T1
  have zJ := J.size
  have zg := (ho.lt g rfl).2
  have HC : Hid (∀ j y, (xs ++ [x])[j]? = some y → w1.cell? ⟨g, j, none⟩ = some (.string ⟨y.toArray⟩)) := fun j y hy => by
    have hj : j < nn + 1 := by
      have := (List.getElem?_eq_some_iff.1 hy).1
      rw [List.length_append, List.length_singleton, HNN.out] at this; exact this
    rw [ho.cellAt j (by omega)]
    unfold wordsV; rw [List.getElem?_map, hy]; rfl
  have cx := HC.out nn x (by rw [← HNN.out]; simp)
  have k1 : IntKind.i64.wrap (nn : Int) = nn := wrap_small (by omega) (by omega)
  have i0' : (0 : Int) ≤ (nn : Int) := Int.natCast_nonneg _
  by_cases hn0 : nn = 0
  case pos =>
    subst hn0
    have e1 : Hid (readPl s.data.toList = none) := readPl_nl HX.out (fun h => by have := h.2; rw [HNN.out] at this; omega)
    obtain ⟨y0, y1, g0, g1⟩ := blk2 T1
    have Z3 := setB2 (u0 := .slice none 0 0) (u1 := .slice none 0 0) T1
    obtain ⟨v0, v1, _, _⟩ := blk2 Z3
    go_wp2_with fail
    refine bodyPost_ret (v := .tuple #[.agg #[.slice none 0 0, .slice none 0 0], .bool false]) (by simp [results, Tryz.results6, go_sem, v0, v1]) rfl ?_
    exact ⟨_, by rw [e1.out]; rfl, by rw [e1.out]; rfl, (Below.setCell (p := ⟨w.heap.size, 0, none⟩) K1 (Nat.le_refl _) _).setCell (p := ⟨w.heap.size, 1, none⟩) (Nat.le_refl _) _⟩
  case neg =>
  have c1 : ¬ ((nn : Int) < 1) := by omega
  by_cases hx : x = []
  case neg =>
    have e1 : Hid (readPl s.data.toList = none) := readPl_nl HX.out (fun h => hx h.1)
    have hxe : x.isEmpty = false := by cases x with | nil => exact absurd rfl hx | cons _ _ => rfl
    obtain ⟨y0, y1, g0, g1⟩ := blk2 T1
    have Z3 := setB2 (u0 := .slice none 0 0) (u1 := .slice none 0 0) T1
    obtain ⟨v0, v1, _, _⟩ := blk2 Z3
    go_wp2_with fail
    refine bodyPost_ret (v := .tuple #[.agg #[.slice none 0 0, .slice none 0 0], .bool false]) (by simp [results, Tryz.results6, go_sem, v0, v1]) rfl ?_
    exact ⟨_, by rw [e1.out]; rfl, by rw [e1.out]; rfl, (Below.setCell (p := ⟨w.heap.size, 0, none⟩) K1 (Nat.le_refl _) _).setCell (p := ⟨w.heap.size, 1, none⟩) (Nat.le_refl _) _⟩
  case pos =>
  subst hx
  have hlt0 : nn ≠ 0 := hn0
  have cxs : ∀ j y, xs[j]? = some y → w1.cell? ⟨g, j, none⟩ = some (.string ⟨y.toArray⟩) := fun j y hy => HC.out j y (by rw [List.getElem?_append_left (List.getElem?_eq_some_iff.1 hy).1]; exact hy)
  have HCX : Hid (∀ j y, xs[j]? = some y → w1.cell? ⟨g, j, none⟩ = some (.string ⟨y.toArray⟩)) := cxs
  have hE := World.ownsRow_made w1 (base := w1.heap.size) (e := 22) (size := 1) #[] 0 (by omega) (by simp [maxLen]) rfl
  have B1 : Below w1.heap.size w1 ((w1.alloc (.cells #[] 22)).alloc (.cells #[.slice none 0 0, .slice (some ⟨w1.heap.size, 0, none⟩) 0 0] 25)) := (by repeat (first | exact bw_refl _ | assumption | apply bw_drewN | apply bw_drew | apply bw_alloc | refine bw_set ?_ (by simp) _))
  have L1 : Lies (w1.heap.size + 1) #[.slice none 0 0, .slice (some ⟨w1.heap.size, 0, none⟩) 0 0] 25 ((w1.alloc (.cells #[] 22)).alloc (.cells #[.slice none 0 0, .slice (some ⟨w1.heap.size, 0, none⟩) 0 0] 25)) := by unfold Lies; exact heap_new1 _ _ _
  have HRD := readPl_rd (z := s.data.toList) (by omega) HX.out
  have HHRD : Hid _ := HRD
  clear cxs HC HRD
  go_wp2_with fail
  go_loopw [7] (fun i wr => ∃ (k : Nat) (ov hv : Value) (ls : List (List P2)), k ≤ nn ∧ i = .int .i64 k ∧ rdP (xs.take k) = some ls ∧ ls.length = k ∧ Lies (w1.heap.size + 1) #[ov, hv] 25 wr ∧ PlUp w1.heap.size wr ov hv ls ∧ Below w1.heap.size w1 wr) (fun i _ => nn - (intOf i).toNat)
  case atStart => exact ⟨0, _, _, [], Nat.zero_le _, rfl, rfl, rfl, L1, ⟨rfl, hE.alloc _, fun t ht => by cases ht⟩, B1⟩
  case round =>
    obtain ⟨k, ov, hv, ls, hk, rfl, hrd, hll, Lo, hU, hnx⟩ := hrel
    have T2 := keep hnx T1
    have K2 := bw_trans K1 hnx
    have zw2 := hnx.size
    have zT2 := blk_lt T2
    by_cases hlt : k < nn
    case neg =>
      obtain rfl : k = nn := by omega
      rw [List.take_of_length_le (by rw [HNN.out]; exact Nat.le_refl _)] at hrd
      cases ls with
      | nil => simp at hll; omega
      | cons o hs =>
        obtain ⟨t, ts, rfl, hG, ht1, ht2⟩ := hU
        obtain ⟨ah, ch, rfl, hp⟩ := hG.plt
        rw [ht1, ht2] at hp
        have hPO := sPlateOk_any (some ⟨t.g, 0, none⟩) ah t.n t.c ts.length ch o hs wr hp
        obtain ⟨m, hm⟩ : ∃ m, ts.length = m := ⟨_, rfl⟩
        rw [hm] at Lo hG hPO
        clear hm hp
        obtain ⟨tg, tn, tc, tl⟩ := t
        dsimp only [LoopT.v] at Lo hG hPO ht1
        obtain ⟨d0, d1, f0, f1⟩ := lies2 Lo
        cases hv : plV o hs with
        | false =>
          have e1 : Hid (readPl s.data.toList = none) := by change _ = _; rw [HHRD.out, hrd]; simp [hv]
          rw [hv] at hPO
          clear hv hrd
          go_wp2_with fail
          refine hPO.mono ?_
          rintro e w3 ⟨rfl, J3⟩
          have T3 := keep J3 T2
          have K3 := bw_trans K2 J3
          obtain ⟨y0, y1, g0, g1⟩ := blk2 T3
          have Z3 := setB2 (u0 := .slice none 0 0) (u1 := .slice none 0 0) T3
          obtain ⟨v0, v1, _, _⟩ := blk2 Z3
          go_wp2_with fail
          refine bodyPost_ret (v := .tuple #[.agg #[.slice none 0 0, .slice none 0 0], .bool false]) (by simp [results, Tryz.results6, go_sem, v0, v1]) rfl ?_
          exact ⟨_, by rw [e1.out]; rfl, by rw [e1.out]; rfl, (Below.setCell (p := ⟨w.heap.size, 0, none⟩) K3 (Nat.le_refl _) _).setCell (p := ⟨w.heap.size, 1, none⟩) (Nat.le_refl _) _⟩
        | true =>
          have e1 : Hid (readPl s.data.toList = some (o :: hs)) := by change _ = _; rw [HHRD.out, hrd]; simp [hv]
          rw [hv] at hPO
          clear hv hrd
          go_wp2_with fail
          refine hPO.mono ?_
          rintro e w3 ⟨rfl, J3⟩
          have T3 := keep J3 T2
          have K3 := bw_trans K2 J3
          have Lo3 := Lo.below J3
          obtain ⟨d03, d13, f03, f13⟩ := lies2 Lo3
          obtain ⟨y0, y1, g0, g1⟩ := blk2 T3
          have Z3 := setB2 (u0 := .slice (some ⟨tg, 0, none⟩) tn tc) (u1 := .slice ah m ch) T3
          obtain ⟨v0, v1, _, _⟩ := blk2 Z3
          have hG3 := hG.below J3
          have O3 : Only w.heap.size w3 ((w3.setCell ⟨w.heap.size, 0, none⟩ (.slice (some ⟨tg, 0, none⟩) tn tc)).setCell ⟨w.heap.size, 1, none⟩ (.slice ah m ch)) := ((Only.refl w.heap.size w3).set (p := ⟨w.heap.size, 0, none⟩) (.inl rfl) _).set (p := ⟨w.heap.size, 1, none⟩) (.inl rfl) _
          go_wp2_with fail
          refine bodyPost_ret (v := .tuple #[.agg #[.slice (some ⟨tg, 0, none⟩) tn tc, .slice ah m ch], .bool true]) (by simp [results, Tryz.results6, go_sem, v0, v1]) rfl ?_
          refine ⟨_, by rw [e1.out]; rfl, ?_, (Below.setCell (p := ⟨w.heap.size, 0, none⟩) K3 (Nat.le_refl _) _).setCell (p := ⟨w.heap.size, 1, none⟩) (Nat.le_refl _) _⟩
          rw [e1.out]
          exact ⟨⟨tg, tn, tc, tl⟩, _, ts, rfl, (hG3.box (cs := #[.slice none 0 0, .slice none 0 0]) T3 O3).mono (by omega), ht1, ht2⟩
    case pos =>
      obtain ⟨y, hy⟩ : ∃ y, xs[k]? = some y := ⟨xs[k]'(by rw [HNN.out]; exact hlt), List.getElem?_eq_getElem _⟩
      have hyz := HSM.out y (List.mem_of_getElem? hy)
      have cy : wr.cell? ⟨g, k, none⟩ = some (.string ⟨y.toArray⟩) := (hnx.cell (p := ⟨g, k, none⟩) zg).trans (HCX.out k y hy)
      have hR := sRead_ok ⟨y.toArray⟩ (by show y.toArray.size ≤ _; rw [List.size_toArray]; omega) wr
      have HT : Hid (xs.take (k + 1) = xs.take k ++ [y]) := by change _ = _; rw [List.take_add_one, hy]; rfl
      have j0 : (0 : Int) ≤ (k : Int) := Int.natCast_nonneg _
      have j1 : (k : Int) < (nn : Int) := by omega
      have j2 : (k : Int) < (nn : Int) + 1 := by omega
      have HK : Hid (rdP (xs.take k) = some ls) := hrd
      have HLL : Hid (ls.length = k) := hll
      obtain ⟨q, hq⟩ : ∃ q, wordsP (cutL 32 y) = q := ⟨_, rfl⟩
      have hq' : wordsP (cutL 32 (ByteArray.mk y.toArray).data.toList) = q := hq
      rw [hq'] at hR
      cases q with
      | none =>
        have e1 : Hid (readPl s.data.toList = none) := by
          change _ = _
          have h1 : rdP xs = none := rdP_none (k := k + 1) (by rw [HT.out, rdP_snoc, HK.out, hq]; rfl)
          rw [HHRD.out, h1]
        clear hq hq' hrd hll hU Lo hy
        go_wp2_with fail
        refine hR.mono ?_
        rintro e w3 ⟨v, l, rfl, ho3, _, _, J3⟩
        have T3 := keep J3 T2
        have K3 := bw_trans K2 J3
        obtain ⟨y0, y1, g0, g1⟩ := blk2 T3
        have Z3 := setB2 (u0 := .slice none 0 0) (u1 := .slice none 0 0) T3
        obtain ⟨v0, v1, _, _⟩ := blk2 Z3
        go_wp2_with fail
        refine bodyPost_ret (v := .tuple #[.agg #[.slice none 0 0, .slice none 0 0], .bool false]) (by simp [results, Tryz.results6, go_sem, v0, v1]) rfl ?_
        exact ⟨_, by rw [e1.out]; rfl, by rw [e1.out]; rfl, (Below.setCell (p := ⟨w.heap.size, 0, none⟩) K3 (Nat.le_refl _) _).setCell (p := ⟨w.heap.size, 1, none⟩) (Nat.le_refl _) _⟩
      | some l =>
        have hl1 := words_ne hq
        have hsn : Hid (rdP (xs.take (k + 1)) = some (ls ++ [l])) := by
          change _ = _
          rw [HT.out, rdP_snoc, HK.out, hq]; rfl
        clear hq hq' hrd hll hy
        go_wp2_with fail
        refine hR.mono ?_
        rintro e w3 ⟨v, l', rfl, ho3, hl', he3, J3⟩
        obtain rfl := he3 l rfl
        clear he3 hR
        have K3 := bw_trans K2 J3
        have Lo3 := Lo.below J3
        have z3 := J3.size
        obtain ⟨t, rfl, htl, hal, htg⟩ := loopT_of ho3 hl1 hl'
        obtain ⟨tg, tn, tc, tl⟩ := t
        dsimp only [LoopT.v] at htl htg ⊢
        obtain ⟨d0, d1, f0, f1⟩ := lies2 Lo3
        have hnx3 := bw_trans hnx J3
        cases ls with
        | nil =>
          obtain rfl : k = 0 := by have := HLL.out; simpa using this.symm
          obtain ⟨rfl, hH⟩ := hU
          have hH3 := hH.below J3
          have L4 := lies_p0 Lo3 (.slice (some ⟨tg, 0, none⟩) tn tc)
          have O4 : Only (w1.heap.size + 1) w3 (w3.setCell ⟨w1.heap.size + 1, 0, none⟩ (.slice (some ⟨tg, 0, none⟩) tn tc)) := (Only.refl (w1.heap.size + 1) w3).set (p := ⟨w1.heap.size + 1, 0, none⟩) (.inl rfl) _
          go_wp2_with fail
          go_roundw
          case rel =>
            refine ⟨1, _, hv, [l'], by omega, by first | rfl | simp, hsn.out, rfl, L4, ⟨⟨tg, tn, tc, tl⟩, [], rfl, ⟨⟨hal.only O4 (hal.ne_box Lo3), by show w1.heap.size ≤ tg; omega⟩, hH3.only O4 (own_ne_pl hH3.1 Lo3) (fun t ht => by cases ht), by simp⟩, htl, rfl⟩, hnx3.setCell (p := ⟨w1.heap.size + 1, 0, none⟩) (Nat.le_succ _) _⟩
          case measure => simp [intOf]; omega
        | cons o hs =>
          obtain ⟨t0, ts, rfl, hG, h01, h02⟩ := hU
          have hG3 := hG.below J3
          have hkl : ts.length + 1 = k := by have := HLL.out; rw [← h02] at this; simpa using this
          have hown := hG3.2.1.1
          have hold : ∀ x ∈ t0 :: ts, x.g < wr.heap.size := fun x hx => by
            rcases List.mem_cons.1 hx with rfl | hx
            · exact hG.1.1.lt
            · exact (hG.2.1.2 x hx).1.lt
          obtain ⟨m, hm⟩ : ∃ m, ts.length = m := ⟨_, rfl⟩
          have HM : Hid (ts.length = m) := hm
          rw [hm] at hown hkl
          clear hm
          obtain ⟨ha, hc, rfl⟩ := own_slice hown
          have j3 : ((k : Int) == 0) = false := by simp; omega
          have hmb : m ≤ 120 := by omega
          clear hkl
          have B34 : Below w3.heap.size w3 (w3.alloc (.cells #[.slice (some ⟨tg, 0, none⟩) tn tc] 22)) := (by repeat (first | exact bw_refl _ | assumption | apply bw_drewN | apply bw_drew | apply bw_alloc | refine bw_set ?_ (by simp) _))
          go_wp2_with (at_builtin; refine wpList_append_lies _ rfl _ _ _ rfl w1.heap.size 22 i0 _ 1 24 Tryz.underlying23 hi0 hz0 hz1 hz2 rfl (by omega) _ m _ rfl (hown.alloc _) ⟨w3.heap.size, 0, none⟩ 1 1 [.slice (some ⟨tg, 0, none⟩) tn tc] rfl rfl (World.news_of_block (cs := #[.slice (some ⟨tg, 0, none⟩) tn tc]) (t := 22) (fr := (0, 0)) (heap_alloc_new w3 _)) (by simp [Value.oneCell']) (by omega) (by simp [maxLen]; omega) (by omega) (by simp; omega) (w3.heap.size + 1) (by simp) ?_; intro gg cap' w8 hown8 hgr8 hat8 hlt8; have L8 := lies_grown (Lo3.alloc _) hgr8 (fun e => own_ne_pl hown Lo3 e.symm); obtain ⟨d08, d18, f08, f18⟩ := lies2 L8)
          have O5 : Only (w1.heap.size + 1) w8 (w8.setCell ⟨w1.heap.size + 1, 1, none⟩ (.slice (some ⟨gg, 0, none⟩) (m + 1) cap')) := (Only.refl (w1.heap.size + 1) w8).set (p := ⟨w1.heap.size + 1, 1, none⟩) (.inl rfl) _
          have keep5 : ∀ x : LoopT, x.al w3 → x.al (w8.setCell ⟨w1.heap.size + 1, 1, none⟩ (.slice (some ⟨gg, 0, none⟩) (m + 1) cap')) := fun x hx => by
            have h5 := (hx.below B34).grown hgr8 (hx.ne_own hown)
            exact h5.only O5 (h5.ne_box L8)
          have hr5 := own_only' hown8 O5 (own_ne_pl hown8 L8)
          have L5 := lies_set1 (z := .slice (some ⟨gg, 0, none⟩) (m + 1) cap') L8
          have K5 := ((hnx3.alloc (Nat.le_trans (Nat.le_refl _) hnx3.size) (.cells #[.slice (some ⟨tg, 0, none⟩) tn tc] 22)).grown hgr8 (by have := hnx3.size; simp; omega) (fun j e => by have := (hown.lt j e).1; omega)).setCell (p := ⟨w1.heap.size + 1, 1, none⟩) (Nat.le_succ _) (.slice (some ⟨gg, 0, none⟩) (m + 1) cap')
          clear hown8 hgr8 hat8 hlt8 L8 d08 d18 f08 f18 O5
          generalize w8.setCell ⟨w1.heap.size + 1, 1, none⟩ (.slice (some ⟨gg, 0, none⟩) (m + 1) cap') = x5 at *
          go_wp2_with fail
          go_roundw
          case rel =>
            refine ⟨k + 1, _, _, o :: hs ++ [l'], by omega, by simp, hsn.out, by rw [List.length_append, HLL.out]; rfl, L5, ⟨t0, ts ++ [⟨tg, tn, tc, tl⟩], rfl, ⟨⟨keep5 _ hG3.1.1, hG3.1.2⟩, ⟨?_, fun x hx => ?_⟩, ?_⟩, h01, by rw [List.map_append, h02, ← htl]; rfl⟩, K5⟩
            · rw [List.length_append, HM.out, List.map_append]; exact hr5
            · rcases List.mem_append.1 hx with hx | hx
              · exact ⟨keep5 _ (hG3.2.1.2 x hx).1, (hG3.2.1.2 x hx).2⟩
              · obtain rfl := List.mem_singleton.1 hx
                exact ⟨keep5 _ hal, by show w1.heap.size ≤ tg; omega⟩
            · rw [List.map_append, ← List.cons_append]
              refine List.nodup_append.2 ⟨hG3.2.2, by simp, ?_⟩
              intro a ha' b hb' e
              have hb2 : b = tg := by simpa using hb'
              have ha2 : a ∈ (t0 :: ts).map LoopT.g := ha'
              obtain ⟨x, hx, rfl⟩ := List.mem_map.1 ha2
              have := hold x hx
              omega
          case measure => simp [intOf]; omega
end Go.Proofs.YthjnfjnnpabenaaGreatDoor
namespace Go.Proofs.YthjnfjnnpabenaaGreatDoor
open Go.RowKit Go.Sort

theorem index_word (c : UInt8) (x r : List UInt8) (h : c ∉ x) : Lib.index (x ++ c :: r) [c] = x.length := by
  induction x with
  | nil => exact index_one_hit c r
  | cons b x ih =>
    have hb : b ≠ c := fun e => h (by rw [e]; exact List.mem_cons_self)
    rw [List.cons_append, index_one_miss hb, ih (fun h' => h (List.mem_cons_of_mem _ h')), if_neg (by simp), List.length_cons]
    omega
theorem index_free (c : UInt8) (x : List UInt8) (h : c ∉ x) : Lib.index x [c] = -1 := by
  induction x with
  | nil => simp [Lib.index]
  | cons b x ih =>
    have hb : b ≠ c := fun e => h (by rw [e]; exact List.mem_cons_self)
    rw [index_one_miss hb, ih (fun h' => h (List.mem_cons_of_mem _ h'))]
    rfl
theorem cut_hit' (c : UInt8) (x r : List UInt8) (h : c ∉ x) : Lib.cut (x ++ c :: r) [c] = (x, r, true) := by
  unfold Lib.cut
  rw [index_word c x r h]
  simp
theorem cut_miss' (c : UInt8) (x : List UInt8) (h : c ∉ x) : Lib.cut x [c] = (x, [], false) := by
  unfold Lib.cut
  rw [index_free c x h]
  simp
theorem cut_first (c : UInt8) (z : List UInt8) (h : c ∈ z) : ∃ x r, z = x ++ c :: r ∧ c ∉ x := by
  induction z with
  | nil => cases h
  | cons b z ih =>
    by_cases hb : b = c
    · exact ⟨[], z, by rw [hb]; rfl, by simp⟩
    · obtain ⟨x, r, e, hx⟩ := ih (by rcases List.mem_cons.1 h with e | e; exact absurd e.symm hb; exact e)
      exact ⟨b :: x, r, by rw [e]; rfl, by simp only [List.mem_cons, not_or]; exact ⟨fun e => hb e.symm, hx⟩⟩
set_option maxRecDepth 100000 in
set_option maxHeartbeats 1000000 in
theorem lineRead_any (s : ByteArray) (x r : List UInt8) (b : Bool) (hc : Lib.cut s.data.toList [10] = (x, r, b)) (hs : s.size ≤ 1000) (w : World) (hL : Lib4 w) :
    Calls Tryz.prog 21 #[.string s] w fun e w' => ∃ (v : Value) (l : List P2), e = .returned (.tuple #[v, .string ⟨r.toArray⟩, .bool (b && (readL ⟨x.toArray⟩).isSome)]) ∧ l = (readL ⟨x.toArray⟩).getD [] ∧ w'.ownsRow w.heap.size 73 2 v l.length (ptCells l) ∧ Below w.heap.size w w' := by
  have hlen : x.length ≤ s.size := by
    have h1 : (Lib.cut s.data.toList [10]).1.length ≤ s.size := by
      unfold Lib.cut
      have e : s.data.toList.length = s.size := Array.length_toList
      split
      · rw [List.length_take]; omega
      · exact Nat.le_of_eq e
    rw [hc] at h1
    exact h1
  have hC : ∀ V, Lib4 V → Calls Tryz.prog 44 #[.string s, .string ⟨#[10]⟩] V fun e w' => e = .returned (.tuple #[.string ⟨x.toArray⟩, .string ⟨r.toArray⟩, .bool b]) ∧ Below V.heap.size V w' := fun V hV => by
    obtain ⟨m, hm⟩ := hV.most
    refine (shelf_strings_Cut s ⟨#[10]⟩ m V (by omega) hm).mono ?_
    rintro e w1 ⟨rfl, n, rfl⟩
    have hc' : Lib.cut s.data.toList (⟨#[10]⟩ : ByteArray).data.toList = (x, r, b) := hc
    refine ⟨?_, by apply bw_drewN; exact bw_refl _⟩
    first | rw [hc] | rw [hc'] | simp only [hc]
  have hR := fun V (hV : Lib4 V) => loopRead_any ⟨x.toArray⟩ (by show x.toArray.size ≤ _; rw [List.size_toArray]; omega) V hV
  generalize hq : readL ⟨x.toArray⟩ = q at *
  cases b
  · go_enter Tryz.func21, Tryz.ntmps21
    go_wp2_with first
      | (go_at_call 44; (with_reducible refine (hC _ hL).mono ?_); rintro e w1 ⟨rfl, J⟩)
      | (go_at_call 45; (with_reducible refine (hR _ (hL.below J)).mono ?_); rintro e w2 ⟨v, l, rfl, hl, ho, J2⟩)
    exact bodyPost_ret (v := .tuple #[v, .string ⟨r.toArray⟩, .bool false]) (by simp [results, Tryz.results21, go_sem]) rfl ⟨v, l, rfl, hl, own_base ho J.size, bw_trans J J2⟩
  · go_enter Tryz.func21, Tryz.ntmps21
    go_wp2_with first
      | (go_at_call 44; (with_reducible refine (hC _ hL).mono ?_); rintro e w1 ⟨rfl, J⟩)
      | (go_at_call 45; (with_reducible refine (hR _ (hL.below J)).mono ?_); rintro e w2 ⟨v, l, rfl, hl, ho, J2⟩)
    exact bodyPost_ret (v := .tuple #[v, .string ⟨r.toArray⟩, .bool q.isSome]) (by simp [results, Tryz.results21, go_sem]) rfl ⟨v, l, rfl, hl, own_base ho J.size, bw_trans J J2⟩
end Go.Proofs.YthjnfjnnpabenaaGreatDoor
namespace Go.Proofs.YthjnfjnnpabenaaGreatDoor
open Go.RowKit Go.Sort

set_option maxRecDepth 100000 in
set_option maxHeartbeats 1000000 in
theorem plateOk_any (a ah : Option Addr) (la ca nh ch : Nat) (o : List P2) (hs : List (List P2)) (w : World) (h : Plt w a la ah nh o hs) :
    Calls Tryz.prog 17 #[.agg #[.slice a la ca, .slice ah nh ch]] w fun e W' => e = .returned (.bool (plV o hs)) ∧ Below w.heap.size w W' := by
  have B0 : Below w.heap.size w (w.alloc (.cells #[.slice a la ca, .slice ah nh ch] 25)) := (by repeat (first | exact bw_refl _ | assumption | apply bw_drewN | apply bw_drew | apply bw_alloc | refine bw_set ?_ (by simp) _))
  go_enter Tryz.func17, Tryz.ntmps17
  go_wp2_with fail
  refine (board_any a ah la ca nh ch o hs _ (h.below B0)).mono ?_
  rintro e w1 ⟨p, rfl, J, _⟩
  go_wp2_with fail
  go_ret
  exact ⟨rfl, bw_trans B0 J⟩
end Go.Proofs.YthjnfjnnpabenaaGreatDoor
namespace Go.Proofs.YthjnfjnnpabenaaGreatDoor
open Go.RowKit Go.Sort

theorem line_cases {z : List UInt8} {ls : List (List P2)} {r0 : List UInt8} (h : Rding z ls r0) (h0 : r0 = [] → readPl z = none) :
    ∃ x r' b, Lib.cut r0 [10] = (x, r', b) ∧ (r0 ≠ [] → r'.length < r0.length) ∧ r'.length ≤ r0.length ∧
      ((∃ l, (b && (readL ⟨x.toArray⟩).isSome) = true ∧ readL ⟨x.toArray⟩ = some l ∧ Rding z (ls ++ [l]) r') ∨ ((b && (readL ⟨x.toArray⟩).isSome) = false ∧ readPl z = none)) := by
  by_cases hm : (10 : UInt8) ∈ r0
  · obtain ⟨x, r', rfl, hx⟩ := cut_first 10 r0 hm
    refine ⟨x, r', true, cut_hit' 10 x r' hx, fun _ => by simp; omega, by simp; omega, ?_⟩
    cases hr : readL ⟨x.toArray⟩ with
    | none => exact .inr ⟨rfl, h.bad hx hr⟩
    | some l => exact .inl ⟨l, rfl, rfl, h.step hx hr⟩
  · refine ⟨r0, [], false, cut_miss' 10 r0 hm, fun hn => List.length_pos_iff.2 hn, Nat.zero_le _, .inr ⟨rfl, ?_⟩⟩
    by_cases e : r0 = []
    · exact h0 e
    · exact h.open' hm e
def szOf : Value → Nat
  | .string s => s.size
  | _ => 0
theorem readL_8 {s : ByteArray} {l : List P2} (h : readL s = some l) : 1 ≤ l.length ∧ l.length ≤ 8 := by
  have := (readL_words h).2
  exact ⟨List.length_pos_iff.2 (okV_pts8 this).1, (okV_pts8 this).2.1⟩
set_option maxRecDepth 100000 in
set_option maxHeartbeats 4000000 in
theorem plateRead_any (s : ByteArray) (hs : s.size ≤ 1048576) (w : World) (hL : Lib4 w) :
    Calls Tryz.prog 7 #[.string s] w fun e w' => ∃ v, e = .returned (.tuple #[v, .bool (readPl s.data.toList).isSome]) ∧ PlAns w.heap.size w' v (readPl s.data.toList) ∧ Below w.heap.size w w' := by
  obtain ⟨i0, hi0, hz0, hz1, hz2⟩ := info_parts Tryz.infoPts
  obtain ⟨W, hW, BW, T⟩ : ∃ W, W = w.alloc (.cells #[.slice none 0 0, .slice none 0 0] 25) ∧ Below w.heap.size w W ∧ W.heap[w.heap.size]? = some (.cells #[.slice none 0 0, .slice none 0 0] 25 (0, 0)) := ⟨_, rfl, (by repeat (first | exact bw_refl _ | assumption | apply bw_drewN | apply bw_drew | apply bw_alloc | refine bw_set ?_ (by simp) _)), heap_new _ _⟩
  have zW : W.heap.size = w.heap.size + 1 := by rw [hW]; simp
  have esz : s.data.toList.length = s.size := Array.length_toList
  by_cases h120 : s.size ≤ 120
  case neg =>
    have e1 : Hid (readPl s.data.toList = none) := readPl_long (by omega)
    have h120' : ((120 : Int) < (s.size : Int)) := by omega
    go_enter Tryz.func7, Tryz.ntmps7
    go_upto_region 1 with fail
    rw [← hW]
    clear hW
    obtain ⟨y0, y1, g0, g1⟩ := blk2 T
    have Z3 := setB2 (u0 := .slice none 0 0) (u1 := .slice none 0 0) T
    obtain ⟨v0, v1, _, _⟩ := blk2 Z3
    go_wp2_with fail
    refine bodyPost_ret (v := .tuple #[.agg #[.slice none 0 0, .slice none 0 0], .bool false]) (by simp [results, Tryz.results7, go_sem, v0, v1]) rfl ?_
    exact ⟨_, by rw [e1.out]; rfl, by rw [e1.out]; rfl, (Below.setCell (p := ⟨w.heap.size, 0, none⟩) BW (Nat.le_refl _) _).setCell (p := ⟨w.heap.size, 1, none⟩) (Nat.le_refl _) _⟩
  case pos =>
  have h120' : ¬ ((120 : Int) < (s.size : Int)) := by omega
  obtain ⟨x0, r0, b0, hc0, _, hr0, hor⟩ := line_cases (Rding.start s.data.toList) (fun e => by rw [e]; exact readPl_nil)
  have hcall := lineRead_any s x0 r0 b0 hc0 (by omega) W (hL.below BW)
  have HO : Hid _ := hor
  clear hor hc0
  go_enter Tryz.func7, Tryz.ntmps7
  go_upto_region 1 with fail
  rw [← hW]
  clear hW
  go_wp2_with fail
  refine hcall.mono ?_
  clear hcall
  rintro e w1 ⟨v, l, rfl, hl, ho, J⟩
  have T1 := keep J T
  have K1 := bw_trans BW J
  have zT1 := blk_lt T1
  have zJ := J.size
  obtain ⟨av, cv, rfl⟩ := own_slice ho
  obtain ⟨n0, hn0⟩ : ∃ n0, l.length = n0 := ⟨_, rfl⟩
  have HN0 : Hid (l.length = n0) := hn0
  have HOW : Hid (w1.ownsRow W.heap.size 73 2 (.slice av l.length cv) l.length (ptCells l)) := ho
  rw [hn0]
  clear hn0 ho
  have B1 : Below w1.heap.size w1 (w1.alloc (.cells #[.slice av n0 cv, .slice none 0 0] 25)) := (by repeat (first | exact bw_refl _ | assumption | apply bw_drewN | apply bw_drew | apply bw_alloc | refine bw_set ?_ (by simp) _))
  have L1 : Lies w1.heap.size #[.slice av n0 cv, .slice none 0 0] 25 (w1.alloc (.cells #[.slice av n0 cv, .slice none 0 0] 25)) := Lies.new w1 _ _
  have HHL : Hid (l = (readL ⟨x0.toArray⟩).getD []) := hl
  obtain ⟨bb, hbb⟩ : ∃ bb, (b0 && (readL ⟨x0.toArray⟩).isSome) = bb := ⟨_, rfl⟩
  have HBB : Hid ((b0 && (readL ⟨x0.toArray⟩).isSome) = bb) := hbb
  rw [hbb]
  clear hl hbb
  have hBW1 : Below W.heap.size W (w1.alloc (.cells #[.slice av n0 cv, .slice none 0 0] 25)) := J.alloc J.size _
  go_wp2_with fail
  go_loopw [5, 6] (fun rest ok wr => ∃ (b : Bool) (r : List UInt8), rest = .string ⟨r.toArray⟩ ∧ ok = .bool b ∧ Below W.heap.size W wr ∧ ((b = true ∧ ∃ (t : LoopT) (hv : Value) (ts : List LoopT), Lies w1.heap.size #[t.v, hv] 25 wr ∧ PlG W.heap.size wr t hv ts ∧ Rding s.data.toList (t.l :: ts.map LoopT.l) r ∧ r.length + ts.length ≤ 120) ∨ (b = false ∧ readPl s.data.toList = none))) (fun rest _ _ => szOf rest)
  case atStart =>
    refine ⟨bb, r0, rfl, rfl, hBW1, ?_⟩
    rcases HO.out with ⟨l', hb, hr, hR⟩ | ⟨hb, hno⟩
    · left
      have hll : l = l' := by rw [HHL.out, hr]; rfl
      subst hll
      obtain ⟨h1, h8⟩ := readL_8 hr
      obtain ⟨t, e, htl, hal, htg⟩ := loopT_of HOW.out h1 (by omega)
      rw [HN0.out] at e
      refine ⟨by rw [← HBB.out, hb], t, .slice none 0 0, [], by rw [← e]; exact L1, ⟨⟨hal.below B1, htg⟩, ⟨World.ownsRow_nil _ _ _ _, fun t ht => by cases ht⟩, by simp⟩, ?_, by simp; omega⟩
      rw [htl]; exact hR
    · exact .inr ⟨by rw [← HBB.out, hb], hno⟩
  case round =>
    obtain ⟨b, r, rfl, rfl, hnx, hst⟩ := hrel
    have T2 := keep hnx T
    have K2 := bw_trans BW hnx
    have zw2 := hnx.size
    rcases hst with ⟨rfl, t, hv, ts, Lo, hG, hRd, hsz⟩ | ⟨rfl, hno⟩
    case inr =>
      have e1 : Hid (readPl s.data.toList = none) := hno
      obtain ⟨y0, y1, g0, g1⟩ := blk2 T2
      have Z3 := setB2 (u0 := .slice none 0 0) (u1 := .slice none 0 0) T2
      obtain ⟨v0, v1, _, _⟩ := blk2 Z3
      go_wp2_with fail
      refine bodyPost_ret (v := .tuple #[.agg #[.slice none 0 0, .slice none 0 0], .bool false]) (by simp [results, Tryz.results7, go_sem, v0, v1]) rfl ?_
      exact ⟨_, by rw [e1.out]; rfl, by rw [e1.out]; rfl, (Below.setCell (p := ⟨w.heap.size, 0, none⟩) K2 (Nat.le_refl _) _).setCell (p := ⟨w.heap.size, 1, none⟩) (Nat.le_refl _) _⟩
    case inl =>
    by_cases hre : r = []
    case pos =>
      subst hre
      obtain ⟨ah, ch, rfl, hp⟩ := hG.plt
      have hPO := plateOk_any (some ⟨t.g, 0, none⟩) ah t.n t.c ts.length ch t.l (ts.map LoopT.l) wr hp
      have HRP : Hid _ := readPl_of (z := s.data.toList) (by omega) hRd.done
      obtain ⟨m, hm⟩ : ∃ m, ts.length = m := ⟨_, rfl⟩
      rw [hm] at Lo hG hPO
      clear hm hp hRd hsz
      obtain ⟨tg, tn, tc, tl⟩ := t
      dsimp only [LoopT.v] at Lo hG hPO HRP
      obtain ⟨d0, d1, f0, f1⟩ := lies2 Lo
      obtain ⟨os, hos⟩ : ∃ os, ts.map LoopT.l = os := ⟨_, rfl⟩
      have HOS : Hid (ts.map LoopT.l = os) := hos
      rw [hos] at hPO HRP
      clear hos
      cases hv : plV tl os with
      | false =>
        have e1 : Hid (readPl s.data.toList = none) := by change _ = _; rw [HRP.out, hv]; rfl
        rw [hv] at hPO
        clear hv
        go_wp2_with fail
        refine hPO.mono ?_
        rintro e w3 ⟨rfl, J3⟩
        have T3 := keep J3 T2
        have K3 := bw_trans K2 J3
        obtain ⟨y0, y1, g0, g1⟩ := blk2 T3
        have Z3 := setB2 (u0 := .slice none 0 0) (u1 := .slice none 0 0) T3
        obtain ⟨v0, v1, _, _⟩ := blk2 Z3
        go_wp2_with fail
        refine bodyPost_ret (v := .tuple #[.agg #[.slice none 0 0, .slice none 0 0], .bool false]) (by simp [results, Tryz.results7, go_sem, v0, v1]) rfl ?_
        exact ⟨_, by rw [e1.out]; rfl, by rw [e1.out]; rfl, (Below.setCell (p := ⟨w.heap.size, 0, none⟩) K3 (Nat.le_refl _) _).setCell (p := ⟨w.heap.size, 1, none⟩) (Nat.le_refl _) _⟩
      | true =>
        have e1 : Hid (readPl s.data.toList = some (tl :: os)) := by change _ = _; rw [HRP.out, hv]; rfl
        rw [hv] at hPO
        clear hv
        go_wp2_with fail
        refine hPO.mono ?_
        rintro e w3 ⟨rfl, J3⟩
        have T3 := keep J3 T2
        have K3 := bw_trans K2 J3
        have Lo3 := Lo.below J3
        obtain ⟨d03, d13, f03, f13⟩ := lies2 Lo3
        obtain ⟨y0, y1, g0, g1⟩ := blk2 T3
        have Z3 := setB2 (u0 := .slice (some ⟨tg, 0, none⟩) tn tc) (u1 := .slice ah m ch) T3
        obtain ⟨v0, v1, _, _⟩ := blk2 Z3
        have hG3 := hG.below J3
        have O3 : Only w.heap.size w3 ((w3.setCell ⟨w.heap.size, 0, none⟩ (.slice (some ⟨tg, 0, none⟩) tn tc)).setCell ⟨w.heap.size, 1, none⟩ (.slice ah m ch)) := ((Only.refl w.heap.size w3).set (p := ⟨w.heap.size, 0, none⟩) (.inl rfl) _).set (p := ⟨w.heap.size, 1, none⟩) (.inl rfl) _
        go_wp2_with fail
        refine bodyPost_ret (v := .tuple #[.agg #[.slice (some ⟨tg, 0, none⟩) tn tc, .slice ah m ch], .bool true]) (by simp [results, Tryz.results7, go_sem, v0, v1]) rfl ?_
        refine ⟨_, by rw [e1.out]; rfl, ?_, (Below.setCell (p := ⟨w.heap.size, 0, none⟩) K3 (Nat.le_refl _) _).setCell (p := ⟨w.heap.size, 1, none⟩) (Nat.le_refl _) _⟩
        rw [e1.out]
        exact ⟨⟨tg, tn, tc, tl⟩, _, ts, rfl, (hG3.box (cs := #[.slice none 0 0, .slice none 0 0]) T3 O3).mono (by omega), rfl, HOS.out⟩
    case neg =>
      have hrz : r.isEmpty = false := by cases r with | nil => exact absurd rfl hre | cons _ _ => rfl
      obtain ⟨x, r', b', hc', hlt', _, hor'⟩ := line_cases hRd (fun e => absurd e hre)
      have hrl : r.length ≤ 120 := by omega
      have hcall := lineRead_any ⟨r.toArray⟩ x r' b' (by simpa using hc') (by show r.toArray.size ≤ _; rw [List.size_toArray]; omega) wr (hL.below K2)
      have HO' : Hid _ := hor'
      have HLT : Hid (r'.length < r.length) := hlt' hre
      clear hc' hlt' hor' hre hRd
      go_wp2_with fail
      refine hcall.mono ?_
      clear hcall
      rintro e w3 ⟨v, l3, rfl, hl3, ho3, J3⟩
      have HL3 : Hid (l3 = (readL ⟨x.toArray⟩).getD []) := hl3
      obtain ⟨av3, cv3, rfl⟩ := own_slice ho3
      obtain ⟨n3, hn3⟩ : ∃ n3, l3.length = n3 := ⟨_, rfl⟩
      have HN3 : Hid (l3.length = n3) := hn3
      have HO3 : Hid (w3.ownsRow wr.heap.size 73 2 (.slice av3 l3.length cv3) l3.length (ptCells l3)) := ho3
      rw [hn3]
      obtain ⟨b3, hb3⟩ : ∃ b3, (b' && (readL ⟨x.toArray⟩).isSome) = b3 := ⟨_, rfl⟩
      have HB3 : Hid ((b' && (readL ⟨x.toArray⟩).isSome) = b3) := hb3
      rw [hb3]
      clear hn3 ho3 hl3 hb3
      have hold : ∀ x ∈ t :: ts, x.g < wr.heap.size := fun x hx => by
        rcases List.mem_cons.1 hx with rfl | hx
        · exact hG.1.1.lt
        · exact (hG.2.1.2 x hx).1.lt
      have hG3 := hG.below J3
      have hown := hG3.2.1.1
      have Lo3 := Lo.below J3
      have zw3 := J3.size
      obtain ⟨m, hm⟩ : ∃ m, ts.length = m := ⟨_, rfl⟩
      have HM : Hid (ts.length = m) := hm
      have hmb : m ≤ 120 := by omega
      rw [hm] at hown
      have HSZ : Hid (r.length + ts.length ≤ 120) := hsz
      clear hm hsz
      obtain ⟨ha, hc, rfl⟩ := own_slice hown
      obtain ⟨d0, d1, f0, f1⟩ := lies2 Lo3
      have B34 : Below w3.heap.size w3 (w3.alloc (.cells #[.slice av3 n3 cv3] 22)) := (by repeat (first | exact bw_refl _ | assumption | apply bw_drewN | apply bw_drew | apply bw_alloc | refine bw_set ?_ (by simp) _))
      have hnx3 := bw_trans hnx J3
      go_wp2_with (at_builtin; refine wpList_append_lies _ rfl _ _ _ rfl W.heap.size 22 i0 _ 1 24 Tryz.underlying23 hi0 hz0 hz1 hz2 rfl (by omega) _ m _ rfl (hown.alloc _) ⟨w3.heap.size, 0, none⟩ 1 1 [.slice av3 n3 cv3] rfl rfl (World.news_of_block (cs := #[.slice av3 n3 cv3]) (t := 22) (fr := (0, 0)) (heap_alloc_new w3 _)) (by simp [Value.oneCell']) (by omega) (by simp [maxLen]; omega) (by omega) (by simp; omega) (w3.heap.size + 1) (by simp) ?_; intro gg cap' w8 hown8 hgr8 hat8 hlt8; have L8 := lies_grown (Lo3.alloc _) hgr8 (fun e => own_ne_pl hown Lo3 e.symm); obtain ⟨d08, d18, f08, f18⟩ := lies2 L8)
      have O5 : Only w1.heap.size w8 (w8.setCell ⟨w1.heap.size, 1, none⟩ (.slice (some ⟨gg, 0, none⟩) (m + 1) cap')) := (Only.refl w1.heap.size w8).set (p := ⟨w1.heap.size, 1, none⟩) (.inl rfl) _
      have keep5 : ∀ x : LoopT, x.al w3 → x.al (w8.setCell ⟨w1.heap.size, 1, none⟩ (.slice (some ⟨gg, 0, none⟩) (m + 1) cap')) := fun x hx => by
        have h5 := (hx.below B34).grown hgr8 (hx.ne_own hown)
        exact h5.only O5 (h5.ne_box L8)
      have hr5 := own_only' hown8 O5 (own_ne_pl hown8 L8)
      have L5 := lies_set1 (z := .slice (some ⟨gg, 0, none⟩) (m + 1) cap') L8
      have K5 := ((hnx3.alloc hnx3.size (.cells #[.slice av3 n3 cv3] 22)).grown hgr8 (by have := hnx3.size; simp; omega) (fun j e => by have := (hown.lt j e).1; omega)).setCell (p := ⟨w1.heap.size, 1, none⟩) zJ (.slice (some ⟨gg, 0, none⟩) (m + 1) cap')
      clear hown8 hgr8 hat8 hlt8 L8 d08 d18 f08 f18 O5
      generalize w8.setCell ⟨w1.heap.size, 1, none⟩ (.slice (some ⟨gg, 0, none⟩) (m + 1) cap') = x5 at *
      go_wp2_with fail
      go_roundw
      case rel =>
        refine ⟨b3, r', rfl, rfl, K5, ?_⟩
        rcases HO'.out with ⟨l', hb, hr, hR⟩ | ⟨hb, hno⟩
        · left
          have hll : l3 = l' := by rw [HL3.out, hr]; rfl
          subst hll
          obtain ⟨h1, h8⟩ := readL_8 hr
          obtain ⟨u, e, hul, hal, hug⟩ := loopT_of HO3.out h1 (by omega)
          rw [HN3.out] at e
          rw [e] at hr5
          refine ⟨by rw [← HB3.out, hb], t, _, ts ++ [u], L5, ⟨⟨keep5 _ hG3.1.1, hG3.1.2⟩, ⟨?_, fun x hx => ?_⟩, ?_⟩, ?_, ?_⟩
          · rw [List.length_append, HM.out, List.map_append]; exact hr5
          · rcases List.mem_append.1 hx with hx | hx
            · exact ⟨keep5 _ (hG3.2.1.2 x hx).1, (hG3.2.1.2 x hx).2⟩
            · obtain rfl := List.mem_singleton.1 hx
              exact ⟨keep5 _ hal, by omega⟩
          · rw [List.map_append, ← List.cons_append]
            refine List.nodup_append.2 ⟨hG3.2.2, by simp, ?_⟩
            intro a ha' b hb' e
            have hb2 : b = u.g := by simpa using hb'
            have ha2 : a ∈ (t :: ts).map LoopT.g := ha'
            obtain ⟨x, hx, rfl⟩ := List.mem_map.1 ha2
            have := hold x hx
            omega
          · rw [List.map_append, ← List.cons_append]
            have : [u].map LoopT.l = [l3] := by rw [← hul]; rfl
            rw [this]; exact hR
          · rw [List.length_append, List.length_singleton]
            have h1 := HSZ.out
            have h2 := HLT.out
            omega
        · exact .inr ⟨by rw [← HB3.out, hb], hno⟩
      case measure =>
        have h2 := HLT.out
        show szOf (.string ⟨r'.toArray⟩) < szOf (.string ⟨r.toArray⟩)
        show r'.toArray.size < r.toArray.size
        rw [List.size_toArray, List.size_toArray]; exact h2
end Go.Proofs.YthjnfjnnpabenaaGreatDoor
namespace Go.Proofs.YthjnfjnnpabenaaGreatDoor
open Go.RowKit Go.Sort

/-- A block of our own of so many cells. -/
def Own (W : World) (g n : Nat) (t : TypeId) : Prop := ∃ cur : Array Value, W.heap[g]? = some (.cells cur t (0, 0)) ∧ cur.size = n
theorem Own.lt {W : World} {g n : Nat} {t : TypeId} (h : Own W g n t) : g < W.heap.size := by obtain ⟨cur, h, _⟩ := h; exact (Array.getElem?_eq_some_iff.1 h).1
theorem Own.room {W : World} {g n i : Nat} {t : TypeId} (h : Own W g n t) (hi : i < n) : (∃ u, W.cell? ⟨g, i, none⟩ = some u) ∧ W.frozen? ⟨g, i, none⟩ = false := by
  obtain ⟨cur, h, hs⟩ := h
  exact ⟨⟨cur[i]'(by omega), by rw [row_cell h]; exact Array.getElem?_eq_getElem _⟩, row_frozen h⟩
theorem Own.set {W : World} {g n i : Nat} {t : TypeId} (h : Own W g n t) (v : Value) : Own (W.setCell ⟨g, i, none⟩ v) g n t := by
  obtain ⟨cur, h, hs⟩ := h
  exact ⟨_, setCell_row h v, by simpa using hs⟩
theorem Own.below {W W' : World} {g n : Nat} {t : TypeId} (h : Own W g n t) (J : Below W.heap.size W W') : Own W' g n t := by
  have hl := h.lt
  obtain ⟨cur, h, hs⟩ := h
  exact ⟨cur, (J.block g hl).trans h, hs⟩
theorem Own.only {W W' : World} {g n r : Nat} {t : TypeId} (h : Own W g n t) (O : Only r W W') (hne : g ≠ r) : Own W' g n t := by
  have hl := h.lt
  obtain ⟨cur, h, hs⟩ := h
  exact ⟨cur, (O.block g hne hl).trans h, hs⟩
theorem own_set_cell {W : World} {g n i j : Nat} {t : TypeId} (h : Own W g n t) (hi : i < n) (v : Value) : (W.setCell ⟨g, i, none⟩ v).cell? ⟨g, j, none⟩ = if i = j then some v else W.cell? ⟨g, j, none⟩ := by
  obtain ⟨cur, h, hs⟩ := h
  rw [row_cell (setCell_row h v), row_cell h, Array.getElem?_setIfInBounds]
  by_cases e : i = j
  · rw [if_pos e, if_pos e, if_pos (by omega)]
  · rw [if_neg e, if_neg e]
/-- The cells of a block, from the first on, are k, k + 1, and so on. -/
def Num (W : World) (g n : Nat) (k : Int) : Prop := ∀ j, j < n → W.cell? ⟨g, j, none⟩ = some (.int .i64 (k + j))
theorem Num.below {W W' : World} {g n : Nat} {k : Int} (h : Num W g n k) (hg : g < W.heap.size) (J : Below W.heap.size W W') : Num W' g n k := fun j hj => (J.cell (p := ⟨g, j, none⟩) hg).trans (h j hj)
theorem Num.snoc {W : World} {g n m : Nat} {t : TypeId} {k u : Int} (h : Own W g n t) (hN : Num W g m k) (hm : m < n) (hu : u = k + m) : Num (W.setCell ⟨g, m, none⟩ (.int .i64 u)) g (m + 1) k := by
  intro j hj
  rw [own_set_cell h hm]
  by_cases e : m = j
  · rw [if_pos e, hu, e]
  · rw [if_neg e]; exact hN j (by omega)
theorem PtBlk.own {W : World} {g c n : Nat} {l : List P2} (h : PtBlk W g c l n) : Own W g (c * 2) 73 := by obtain ⟨cur, h, hs, _⟩ := h; exact ⟨cur, h, hs⟩
set_option maxRecDepth 100000 in
set_option maxHeartbeats 1000000 in
theorem markPts_any (g len cap n : Nat) (k : Int) (w : World) (hb : Own w g n 73) (hn : len * 2 ≤ n) (hlen : len ≤ 1048576) (k0 : 0 ≤ k) (k1 : k ≤ 1125899906842624) :
    Calls Tryz.prog 24 #[.slice (some ⟨g, 0, none⟩) len cap, .int .i64 k] w fun e w' => e = .returned (.int .i64 (k + 2 * len)) ∧ Num w' g (len * 2) k ∧ Own w' g n 73 ∧ Only g w w' := by
  go_enter Tryz.func24, Tryz.ntmps24
  go_wp2_with fail
  go_loopw [1, 5] (fun kk i wr => ∃ (j : Nat) (u : Int), j ≤ len ∧ i = .int .i64 j ∧ kk = .int .i64 u ∧ u = k + 2 * (j : Int) ∧ Num wr g (j * 2) k ∧ Own wr g n 73 ∧ Only g w wr) (fun _ i _ => len - (intOf i).toNat)
  case atStart => exact ⟨0, k, Nat.zero_le _, rfl, rfl, by simp, fun j hj => by omega, hb, Only.refl _ _⟩
  case round =>
    obtain ⟨j, u, hj, rfl, rfl, hu, hN, hO, P⟩ := hrel
    by_cases hlt : j < len
    · have u0 : 0 ≤ u := by omega
      have u1 : u ≤ 2251799813685248 := by omega
      have Hu : Hid (u = k + 2 * (j : Int)) := hu
      clear hu
      have i0 : (0 : Int) ≤ (j : Int) := Int.natCast_nonneg _
      have i1 : (j : Int) < (len : Int) := by omega
      obtain ⟨⟨s0, r0⟩, z0⟩ := hO.room (i := j * 2) (by omega)
      obtain ⟨⟨s1, r1⟩, z1⟩ := hO.room (i := j * 2 + 1) (by omega)
      go_wp2_with fail
      have hO1 := hO.set (i := j * 2) (.int .i64 u)
      have hN1 := hN.snoc hO (u := u) (by omega) (by rw [Hu.out]; simp; omega)
      have hN2 := hN1.snoc hO1 (u := u + 1) (by omega) (by rw [Hu.out]; simp; omega)
      go_roundw
      case rel => exact ⟨j + 1, u + 1 + 1, by omega, by simp, by simp, by rw [Hu.out]; omega, fun i hi => hN2 i (by omega), hO1.set _, (P.set (.inl rfl) _).set (.inl rfl) _⟩
      case measure => simp [intOf]; omega
    · obtain rfl : j = len := by omega
      go_wp2
      go_ret
      exact ⟨by first | exact hu | (simp; omega) | (subst hu; rfl), hN, hO, P⟩
set_option maxRecDepth 100000 in
set_option maxHeartbeats 1000000 in
theorem heldPts_any (g len cap : Nat) (k : Int) (w : World) (hN : Num w g (len * 2) k) (hg : g < w.heap.size) (hlen : len ≤ 1048576) (k0 : 0 ≤ k) (k1 : k ≤ 1125899906842624) :
    Calls Tryz.prog 26 #[.slice (some ⟨g, 0, none⟩) len cap, .int .i64 k] w fun e w' => e = .returned (.int .i64 (k + 2 * len)) ∧ Below w.heap.size w w' := by
  go_enter Tryz.func26, Tryz.ntmps26
  go_wp2_with fail
  go_loopw [1, 5] (fun kk i wr => ∃ (j : Nat) (u : Int), j ≤ len ∧ i = .int .i64 j ∧ kk = .int .i64 u ∧ u = k + 2 * (j : Int) ∧ Below w.heap.size w wr) (fun _ i _ => len - (intOf i).toNat)
  case atStart => exact ⟨0, k, Nat.zero_le _, rfl, rfl, by simp, bw_refl _⟩
  case round =>
    obtain ⟨j, u, hj, rfl, rfl, hu, hnx⟩ := hrel
    by_cases hlt : j < len
    · have u0 : 0 ≤ u := by omega
      have u1 : u ≤ 2251799813685248 := by omega
      have Hu : Hid (u = k + 2 * (j : Int)) := hu
      have hNr := hN.below hg hnx
      have c0 : wr.cell? ⟨g, j * 2, none⟩ = some (.int .i64 u) := by rw [hNr _ (by omega)]; congr 2; rw [hu]; simp; omega
      have c1 : wr.cell? ⟨g, j * 2 + 1, none⟩ = some (.int .i64 (u + 1)) := by rw [hNr _ (by omega)]; congr 2; rw [hu]; simp; omega
      clear hu hNr
      have i0 : (0 : Int) ≤ (j : Int) := Int.natCast_nonneg _
      have i1 : (j : Int) < (len : Int) := by omega
      go_wp2_with fail
      go_roundw
      case rel => exact ⟨j + 1, u + 1 + 1, by omega, by simp, by simp, by rw [Hu.out]; omega, hnx⟩
      case measure => simp [intOf]; omega
    · obtain rfl : j = len := by omega
      go_wp2
      go_ret
      exact ⟨by first | exact hu | (simp; omega) | (subst hu; rfl), hnx⟩
/-- A slice of points of our own memory, or none. -/
def AnsT (base top : Nat) (W : World) (v : Value) (l : List P2) : Prop :=
  (l = [] ∧ ∃ a c, v = .slice a 0 c) ∨ ∃ g c, v = .slice (some ⟨g, 0, none⟩) l.length c ∧ base ≤ g ∧ g < top ∧ l.length ≤ c ∧ PtBlk W g c l l.length
theorem AnsT.below {base top : Nat} {W W' : World} {v : Value} {l : List P2} (h : AnsT base top W v l) (J : Below W.heap.size W W') : AnsT base top W' v l := by
  rcases h with h | ⟨g, c, e, hb, ht, hc, hB⟩
  · exact .inl h
  · exact .inr ⟨g, c, e, hb, ht, hc, hB.below J⟩
theorem AnsT.only {base top r : Nat} {W W' : World} {v : Value} {l : List P2} (h : AnsT base top W v l) (O : Only r W W') (hr : r < base ∨ top ≤ r) : AnsT base top W' v l := by
  rcases h with h | ⟨g, c, e, hb, ht, hc, hB⟩
  · exact .inl h
  · exact .inr ⟨g, c, e, hb, ht, hc, blk_only hB O (by omega)⟩
theorem AnsT.of_own {base n : Nat} {W : World} {v : Value} {l : List P2} (h : W.ownsRow base 73 2 v n (ptCells l)) (hn : l.length = n) : AnsT base W.heap.size W v l := by
  rcases Nat.eq_zero_or_pos n with h0 | h0
  · subst h0
    rcases h.2 with ⟨h, _⟩ | ⟨g, cap, cur, e, hb, hg, h1, h2, hs, ht⟩
    · exact .inl ⟨List.eq_nil_of_length_eq_zero hn, _, _, h⟩
    · exact .inl ⟨List.eq_nil_of_length_eq_zero hn, _, _, e⟩
  · obtain ⟨g2, c2, rfl, _, _⟩ := h.form (by omega)
    obtain ⟨hb3, h1, h2, h3⟩ := blk_of_own h hn
    exact .inr ⟨g2, c2, by rw [hn], h3, hb3.lt, by rw [hn]; exact h1, by rw [hn]; exact hb3⟩
theorem AnsT.own {base top : Nat} {W : World} {v : Value} {l : List P2} (h : AnsT base top W v l) : ∃ a c, v = .slice a l.length c ∧ Pts W.heap.size W a l.length l := by
  rcases h with ⟨rfl, a, c, rfl⟩ | ⟨g, c, rfl, hb, ht, hc, hB⟩
  · exact ⟨a, c, rfl, rfl, .inl rfl⟩
  · exact ⟨_, c, rfl, hB.pts' rfl⟩
theorem eqAns_same (base top base' top' : Nat) (va vb : Value) (l : List P2) (w : World) (hA : AnsT base top w va l) (hB : AnsT base' top' w vb l) (hlen : l.length ≤ 1048576) :
    Calls Tryz.prog 22 #[va, vb] w fun e w' => e = .returned (.bool true) ∧ Below w.heap.size w w' := by
  obtain ⟨a, c, rfl, PA⟩ := hA.own
  obtain ⟨a', c', rfl, PB⟩ := hB.own
  exact eqPts_same a a' l.length c c' l w PA PB hlen
/-- A slice of points that bears the marks. -/
def MarkT (base top : Nat) (W : World) (v : Value) (n : Nat) : Prop :=
  (n = 0 ∧ ∃ a c, v = .slice a 0 c) ∨ ∃ g c, v = .slice (some ⟨g, 0, none⟩) n c ∧ base ≤ g ∧ g < top ∧ g < W.heap.size ∧ Num W g (n * 2) 1
theorem MarkT.below {base top n : Nat} {W W' : World} {v : Value} (h : MarkT base top W v n) (J : Below W.heap.size W W') : MarkT base top W' v n := by
  rcases h with h | ⟨g, c, e, hb, ht, hg, hN⟩
  · exact .inl h
  · exact .inr ⟨g, c, e, hb, ht, Nat.lt_of_lt_of_le hg J.size, hN.below hg J⟩
set_option maxRecDepth 100000 in
set_option maxHeartbeats 1000000 in
theorem markNil_any (a : Option Addr) (c : Nat) (w : World) : Calls Tryz.prog 24 #[.slice a 0 c, .int .i64 1] w fun e w' => e = .returned (.int .i64 1) ∧ Below w.heap.size w w' := by
  go_enter Tryz.func24, Tryz.ntmps24
  go_wp2_with fail
  refine wp_loop_rounds 1 ?_
  rw [rounds_succ]
  go_wp2_with fail
  go_ret
  exact ⟨rfl, bw_refl _⟩
theorem markAns_any (base top : Nat) (v : Value) (l : List P2) (w : World) (hA : AnsT base top w v l) (hlen : l.length ≤ 1048576) :
    Calls Tryz.prog 24 #[v, .int .i64 1] w fun e w' => e = .returned (.int .i64 (1 + 2 * l.length)) ∧ MarkT base top w' v l.length ∧ ∃ r, base ≤ r ∧ (r < top ∨ w.heap.size ≤ r) ∧ Only r w w' := by
  rcases hA with ⟨rfl, a, c, rfl⟩ | ⟨g, c, rfl, hb, ht, hc, hB⟩
  · refine (markNil_any a c w).mono ?_
    rintro e w' ⟨rfl, J⟩
    refine ⟨rfl, .inl ⟨rfl, a, c, rfl⟩, max base w.heap.size, by omega, .inr (by omega), ⟨J.os, J.tape, J.output, J.size, fun j _ hj => J.block j hj⟩⟩
  · refine (markPts_any g l.length c (c * 2) 1 w hB.own (by omega) hlen (by omega) (by omega)).mono ?_
    rintro e w' ⟨rfl, hN, hO, O⟩
    exact ⟨rfl, .inr ⟨g, c, rfl, hb, ht, hO.lt, hN⟩, g, hb, .inl ht, O⟩
set_option maxRecDepth 100000 in
set_option maxHeartbeats 1000000 in
theorem heldNil_any (a : Option Addr) (c : Nat) (w : World) : Calls Tryz.prog 26 #[.slice a 0 c, .int .i64 1] w fun e w' => e = .returned (.int .i64 1) ∧ Below w.heap.size w w' := by
  go_enter Tryz.func26, Tryz.ntmps26
  go_wp2_with fail
  refine wp_loop_rounds 1 ?_
  rw [rounds_succ]
  go_wp2_with fail
  go_ret
  exact ⟨rfl, bw_refl _⟩
theorem heldAns_any (base top n : Nat) (v : Value) (w : World) (hA : MarkT base top w v n) (hlen : n ≤ 1048576) :
    Calls Tryz.prog 26 #[v, .int .i64 1] w fun e w' => e = .returned (.int .i64 (1 + 2 * n)) ∧ Below w.heap.size w w' := by
  rcases hA with ⟨rfl, a, c, rfl⟩ | ⟨g, c, rfl, hb, ht, hg, hN⟩
  · exact heldNil_any a c w
  · exact heldPts_any g n c 1 w hN hg hlen (by omega) (by omega)
end Go.Proofs.YthjnfjnnpabenaaGreatDoor
namespace Go.Proofs.YthjnfjnnpabenaaGreatDoor
open Go.RowKit Go.Sort

/-- Nothing but the blocks of a list is turned. -/
structure OnlyL (gs : List Nat) (W W' : World) : Prop where
  os : W'.os = W.os
  tape : W'.tape = W.tape
  output : W'.output = W.output
  size : W.heap.size ≤ W'.heap.size
  block : ∀ k, k ∉ gs → k < W.heap.size → W'.heap[k]? = W.heap[k]?
theorem OnlyL.refl (gs : List Nat) (W : World) : OnlyL gs W W := ⟨rfl, rfl, rfl, Nat.le_refl _, fun _ _ _ => rfl⟩
theorem OnlyL.trans {gs : List Nat} {A B C : World} (h : OnlyL gs A B) (k : OnlyL gs B C) : OnlyL gs A C :=
  ⟨k.os.trans h.os, k.tape.trans h.tape, k.output.trans h.output, Nat.le_trans h.size k.size, fun i hi hl => (k.block i hi (Nat.lt_of_lt_of_le hl h.size)).trans (h.block i hi hl)⟩
theorem OnlyL.of_only {gs : List Nat} {r : Nat} {A B : World} (h : Only r A B) (hr : r ∈ gs) : OnlyL gs A B := ⟨h.os, h.tape, h.output, h.size, fun k hk hl => h.block k (fun e => hk (by rw [e]; exact hr)) hl⟩
theorem OnlyL.of_below {gs : List Nat} {A B : World} (h : Below A.heap.size A B) : OnlyL gs A B := ⟨h.os, h.tape, h.output, h.size, fun k _ hl => h.block k hl⟩
theorem OnlyL.weak {gs gs' : List Nat} {A B : World} (h : OnlyL gs A B) (hs : ∀ g ∈ gs, g ∈ gs') : OnlyL gs' A B := ⟨h.os, h.tape, h.output, h.size, fun k hk hl => h.block k (fun e => hk (hs k e)) hl⟩
theorem OnlyL.below {gs : List Nat} {b : Nat} {A B : World} (h : OnlyL gs A B) (hs : ∀ g ∈ gs, b ≤ g) (hb : b ≤ A.heap.size) : Below b A B := ⟨h.os, h.tape, h.output, h.size, fun k hk => h.block k (fun e => by have := hs k e; omega) (by omega)⟩
def NumL (W : World) : List LoopT → Int → Prop
  | [], _ => True
  | t :: r, k => (t.g < W.heap.size ∧ Num W t.g (t.n * 2) k) ∧ NumL W r (k + 2 * t.n)
def endL : List LoopT → Int → Int
  | [], k => k
  | t :: r, k => endL r (k + 2 * t.n)
theorem endL_snoc (l : List LoopT) (t : LoopT) : ∀ k, endL (l ++ [t]) k = endL l k + 2 * t.n := by
  induction l with
  | nil => intro k; rfl
  | cons x r ih => intro k; exact ih _
theorem numL_snoc {W : World} (l : List LoopT) (t : LoopT) : ∀ k, NumL W (l ++ [t]) k ↔ NumL W l k ∧ (t.g < W.heap.size ∧ Num W t.g (t.n * 2) (endL l k)) := by
  induction l with
  | nil => intro k; simp [NumL, endL]
  | cons x r ih => intro k; simp only [List.cons_append, NumL, endL, ih, and_assoc]
theorem NumL.only {W W' : World} {r : Nat} (O : Only r W W') : ∀ {l : List LoopT} {k : Int}, NumL W l k → (∀ t ∈ l, t.g ≠ r) → NumL W' l k := by
  intro l
  induction l with
  | nil => intro k h _; exact h
  | cons x l ih =>
    intro k h hr
    refine ⟨⟨Nat.lt_of_lt_of_le h.1.1 O.size, fun j hj => ?_⟩, ih h.2 (fun t ht => hr t (List.mem_cons_of_mem _ ht))⟩
    have e : W'.cell? ⟨x.g, j, none⟩ = W.cell? ⟨x.g, j, none⟩ := by
      unfold World.cell?; simp only [O.block x.g (hr x List.mem_cons_self) h.1.1]
    rw [e]; exact h.1.2 j hj
theorem NumL.below {W W' : World} (J : Below W.heap.size W W') : ∀ {l : List LoopT} {k : Int}, NumL W l k → NumL W' l k := by
  intro l
  induction l with
  | nil => intro k h; exact h
  | cons x l ih => intro k h; exact ⟨⟨Nat.lt_of_lt_of_le h.1.1 J.size, h.1.2.below h.1.1 J⟩, ih h.2⟩
theorem endL_le : ∀ {l : List LoopT} {k : Int}, (∀ t ∈ l, t.n ≤ 1001) → k ≤ endL l k ∧ endL l k ≤ k + 2002 * (l.length : Int) := by
  intro l
  induction l with
  | nil => intro k _; simp [endL]
  | cons x l ih =>
    intro k h
    obtain ⟨h1, h2⟩ := ih (k := k + 2 * x.n) (fun t ht => h t (List.mem_cons_of_mem _ ht))
    have h3 := h x List.mem_cons_self
    simp only [endL, List.length_cons]
    omega
theorem numL_at {W : World} : ∀ {l : List LoopT} {i : Nat} {t : LoopT} {k : Int}, l[i]? = some t → NumL W l k → t.g < W.heap.size ∧ Num W t.g (t.n * 2) (endL (l.take i) k) := by
  intro l
  induction l with
  | nil => intro i t k h; simp at h
  | cons x l ih =>
    intro i t k h hN
    cases i with
    | zero => simp at h; subst h; exact hN.1
    | succ i => simp at h; exact ih h hN.2
theorem take_snocT {l : List LoopT} {j : Nat} {t : LoopT} (h : l[j]? = some t) : l.take (j + 1) = l.take j ++ [t] := by rw [List.take_add_one, h]; rfl
theorem nodup_take {l : List LoopT} (h : (l.map LoopT.g).Nodup) {j : Nat} {t : LoopT} (hj : l[j]? = some t) : ∀ x ∈ l.take j, x.g ≠ t.g := by
  intro x hx e
  obtain ⟨i, hi, rfl⟩ := List.getElem_of_mem hx
  rw [List.length_take] at hi
  obtain ⟨hj1, rfl⟩ := List.getElem?_eq_some_iff.1 hj
  rw [List.getElem_take] at e
  have h1 : (l.map LoopT.g)[i]'(by simp; omega) = (l.map LoopT.g)[j]'(by simp; omega) := by simpa using e
  have := (List.getElem_inj h).1 h1
  omega
theorem own_cell {W : World} {base gh ch : Nat} {hs : List LoopT} (hr : W.ownsRow base 22 1 (.slice (some ⟨gh, 0, none⟩) hs.length ch) hs.length (hs.map LoopT.v)) {j : Nat} {t : LoopT} (hj : hs[j]? = some t) : W.cell? ⟨gh, j, none⟩ = some (.slice (some ⟨t.g, 0, none⟩) t.n t.c) := by
  have := own_news hr (j := j) (u := t.v) (by rw [List.getElem?_map, hj]; rfl)
  rwa [show ((⟨gh, 0, none⟩ : Addr).add j) = ⟨gh, j, none⟩ by unfold Addr.add; split <;> simp_all] at this
set_option maxRecDepth 100000 in
set_option maxHeartbeats 2000000 in
theorem markSS_own (base : Nat) (hv : Value) (hs : List LoopT) (k : Int) (w : World) (hr : w.ownsRow base 22 1 hv hs.length (hs.map LoopT.v)) (hO : ∀ t ∈ hs, Own w t.g (t.c * 2) 73 ∧ t.n ≤ t.c ∧ t.n ≤ 1001)
    (hnd : (hs.map LoopT.g).Nodup) (hne : ∀ t ∈ hs, hv.ownBlock ≠ some t.g) (hn : hs.length ≤ 100) (k0 : 0 ≤ k) (k1 : k ≤ 1099511627776) :
    Calls Tryz.prog 25 #[hv, .int .i64 k] w fun e w' => e = .returned (.int .i64 (endL hs k)) ∧ NumL w' hs k ∧ OnlyL (hs.map LoopT.g) w w' := by
  obtain ⟨a, ch, rfl⟩ := own_slice hr
  obtain ⟨nh, hnh⟩ : ∃ nh, hs.length = nh := ⟨_, rfl⟩
  have HNH : Hid (hs.length = nh) := hnh
  have HN1 : Hid (∀ t ∈ hs, t.n ≤ 1001) := fun t ht => (hO t ht).2.2
  rw [hnh] at hr hne
  rw [hnh]
  go_enter Tryz.func25, Tryz.ntmps25
  go_wp2_with fail
  go_loopw [1, 5] (fun kk i wr => ∃ (j : Nat) (u : Int), j ≤ nh ∧ i = .int .i64 j ∧ kk = .int .i64 u ∧ u = endL (hs.take j) k ∧ NumL wr (hs.take j) k ∧ (∀ t ∈ hs, Own wr t.g (t.c * 2) 73) ∧ wr.ownsRow base 22 1 (.slice a nh ch) nh (hs.map LoopT.v) ∧ OnlyL (hs.map LoopT.g) w wr) (fun _ i _ => nh - (intOf i).toNat)
  case atStart => exact ⟨0, k, Nat.zero_le _, rfl, rfl, rfl, trivial, fun t ht => (hO t ht).1, hr, OnlyL.refl _ _⟩
  case round =>
    obtain ⟨j, u, hj, rfl, rfl, hu, hN, hOw, hrr, hon⟩ := hrel
    by_cases hlt : j < nh
    · obtain ⟨t, ht⟩ : ∃ t, hs[j]? = some t := ⟨hs[j]'(by rw [HNH.out]; exact hlt), List.getElem?_eq_getElem _⟩
      have hmem := List.mem_of_getElem? ht
      obtain ⟨g, cc, e, _, _⟩ := hrr.form (by omega)
      cases e
      have hrr' : wr.ownsRow base 22 1 (.slice (some ⟨g, 0, none⟩) hs.length ch) hs.length (hs.map LoopT.v) := by rw [HNH.out]; exact hrr
      have cj := own_cell hrr' ht
      obtain ⟨u0, u1⟩ := endL_le (l := hs.take j) (k := k) (fun x hx => HN1.out x (List.mem_of_mem_take hx))
      rw [← hu] at u0 u1
      have hlen : ((hs.take j).length : Int) ≤ 100 := by rw [List.length_take]; omega
      obtain ⟨_, hc1, hn1⟩ := hO t hmem
      have hcall := markPts_any t.g t.n t.c (t.c * 2) u wr (hOw t hmem) (by omega) (by omega) (by omega) (by omega)
      have Hu : Hid (u = endL (hs.take j) k) := hu
      have HT : Hid (hs.take (j + 1) = hs.take j ++ [t]) := take_snocT ht
      have HNo : Hid (∀ x ∈ hs.take j, x.g ≠ t.g) := nodup_take hnd ht
      have i0 : (0 : Int) ≤ (j : Int) := Int.natCast_nonneg _
      have i1 : (j : Int) < (nh : Int) := by omega
      clear hu u1 hlen hrr' u0
      go_wp2_with (go_at_call 24; refine hcall.mono ?_; rintro e w3 ⟨rfl, hN3, hO3, O3⟩)
      go_roundw
      case rel =>
        refine ⟨j + 1, u + 2 * (t.n : Int), by omega, by simp, by first | rfl | simp, by rw [HT.out, endL_snoc, Hu.out], ?_, fun x hx => ?_, own_only' hrr O3 (hne t hmem), hon.trans (OnlyL.of_only O3 (List.mem_map_of_mem hmem))⟩
        · rw [HT.out, numL_snoc]
          exact ⟨hN.only O3 HNo.out, hO3.lt, by rw [← Hu.out]; exact hN3⟩
        · by_cases e : x.g = t.g
          · obtain ⟨c1, q1, q2⟩ := hOw x hx
            obtain ⟨c2, q3, q4⟩ := hOw t hmem
            obtain ⟨c3, q5, q6⟩ := hO3
            rw [e, q3] at q1; cases q1
            exact ⟨c3, by rw [e]; exact q5, by omega⟩
          · exact (hOw x hx).only O3 e
      case measure => simp [intOf]; omega
    · obtain rfl : j = nh := by omega
      rw [List.take_of_length_le (by rw [HNH.out]; exact Nat.le_refl _)] at hu hN
      go_wp2
      go_ret
      exact ⟨by rw [hu]; rfl, hN, hon⟩
set_option maxRecDepth 100000 in
set_option maxHeartbeats 2000000 in
theorem heldSS_own (base : Nat) (hv : Value) (hs : List LoopT) (k : Int) (w : World) (hr : w.ownsRow base 22 1 hv hs.length (hs.map LoopT.v)) (hN : NumL w hs k) (hn1 : ∀ t ∈ hs, t.n ≤ 1001) (hn : hs.length ≤ 100) (k0 : 0 ≤ k) (k1 : k ≤ 1099511627776) :
    Calls Tryz.prog 27 #[hv, .int .i64 k] w fun e w' => e = .returned (.int .i64 (endL hs k)) ∧ Below w.heap.size w w' := by
  obtain ⟨a, ch, rfl⟩ := own_slice hr
  obtain ⟨nh, hnh⟩ : ∃ nh, hs.length = nh := ⟨_, rfl⟩
  have HNH : Hid (hs.length = nh) := hnh
  rw [hnh] at hr
  rw [hnh]
  go_enter Tryz.func27, Tryz.ntmps27
  go_wp2_with fail
  go_loopw [1, 5] (fun kk i wr => ∃ (j : Nat) (u : Int), j ≤ nh ∧ i = .int .i64 j ∧ kk = .int .i64 u ∧ u = endL (hs.take j) k ∧ Below w.heap.size w wr) (fun _ i _ => nh - (intOf i).toNat)
  case atStart => exact ⟨0, k, Nat.zero_le _, rfl, rfl, rfl, bw_refl _⟩
  case round =>
    obtain ⟨j, u, hj, rfl, rfl, hu, hnx⟩ := hrel
    by_cases hlt : j < nh
    · obtain ⟨t, ht⟩ : ∃ t, hs[j]? = some t := ⟨hs[j]'(by rw [HNH.out]; exact hlt), List.getElem?_eq_getElem _⟩
      have hmem := List.mem_of_getElem? ht
      have hrr := own_below hr hnx
      obtain ⟨g, cc, e, _, _⟩ := hrr.form (by omega)
      cases e
      have hrr' : wr.ownsRow base 22 1 (.slice (some ⟨g, 0, none⟩) hs.length ch) hs.length (hs.map LoopT.v) := by rw [HNH.out]; exact hrr
      have cj := own_cell hrr' ht
      obtain ⟨u0, u1⟩ := endL_le (l := hs.take j) (k := k) (fun x hx => hn1 x (List.mem_of_mem_take hx))
      rw [← hu] at u0 u1
      have hlen : ((hs.take j).length : Int) ≤ 100 := by rw [List.length_take]; omega
      have hn1' := hn1 t hmem
      obtain ⟨q1, q2⟩ := numL_at ht (hN.below hnx)
      rw [← hu] at q2
      have hcall := heldPts_any t.g t.n t.c u wr q2 q1 (by omega) (by omega) (by omega)
      have Hu : Hid (u = endL (hs.take j) k) := hu
      have HT : Hid (hs.take (j + 1) = hs.take j ++ [t]) := take_snocT ht
      have i0 : (0 : Int) ≤ (j : Int) := Int.natCast_nonneg _
      have i1 : (j : Int) < (nh : Int) := by omega
      have n2 : ¬ (u + 2 * (t.n : Int) < 0) := by omega
      clear hu u1 hlen hrr' u0 q2
      go_wp2_with (go_at_call 26; refine hcall.mono ?_; rintro e w3 ⟨rfl, J3⟩)
      go_roundw
      case rel => exact ⟨j + 1, u + 2 * (t.n : Int), by omega, by simp, by first | rfl | simp, by rw [HT.out, endL_snoc, Hu.out], bw_trans hnx J3⟩
      case measure => simp [intOf]; omega
    · obtain rfl : j = nh := by omega
      rw [List.take_of_length_le (by rw [HNH.out]; exact Nat.le_refl _)] at hu
      go_wp2
      go_ret
      exact ⟨by rw [hu]; rfl, hnx⟩
theorem own_onlyL {W W' : World} {base : Nat} {gs : List Nat} {n : Nat} {hv : Value} {xs : List Value} {e : TypeId} {sz : Nat} (h : W.ownsRow base e sz hv n xs) (O : OnlyL gs W W') (hne : ∀ g ∈ gs, hv.ownBlock ≠ some g) : W'.ownsRow base e sz hv n xs := by
  refine ⟨h.1, h.2.imp id ?_⟩
  rintro ⟨g, cap, cur, rfl, hb, hg, r⟩
  exact ⟨g, cap, cur, rfl, hb, (O.block g (fun hm => hne g hm rfl) (Array.getElem?_eq_some_iff.1 hg).1).trans hg, r⟩
theorem PlG.ne {base : Nat} {W : World} {o : LoopT} {hv : Value} {hs : List LoopT} (h : PlG base W o hv hs) : ∀ t ∈ o :: hs, hv.ownBlock ≠ some t.g := fun t ht e => by
  rcases List.mem_cons.1 ht with rfl | ht
  · exact h.1.1.ne_own h.2.1.1 e.symm
  · exact (h.2.1.2 t ht).1.ne_own h.2.1.1 e.symm
set_option maxRecDepth 100000 in
set_option maxHeartbeats 2000000 in
theorem markPl_own (base : Nat) (o : LoopT) (hv : Value) (hs : List LoopT) (w : World) (hG : PlG base w o hv hs) (hn : hs.length ≤ 100) :
    Calls Tryz.prog 9 #[.agg #[o.v, hv], .int .i64 1] w fun e w' => e = .returned (.int .i64 (endL (o :: hs) 1)) ∧ NumL w' (o :: hs) 1 ∧ w'.ownsRow base 22 1 hv hs.length (hs.map LoopT.v) ∧ OnlyL ((o :: hs).map LoopT.g) w w' := by
  have hne := hG.ne
  obtain ⟨a, ch, rfl⟩ := own_slice hG.2.1.1
  obtain ⟨nh, hnh⟩ : ∃ nh, hs.length = nh := ⟨_, rfl⟩
  have HNH : Hid (hs.length = nh) := hnh
  rw [hnh] at hn
  obtain ⟨g, n, c, l⟩ := o
  show Calls Tryz.prog 9 #[.agg #[.slice (some ⟨g, 0, none⟩) n c, .slice a hs.length ch], .int .i64 1] w _
  rw [hnh]
  obtain ⟨W, hW, BW, T⟩ : ∃ W, W = w.alloc (.cells #[.slice (some ⟨g, 0, none⟩) n c, .slice a nh ch] 25) ∧ Below w.heap.size w W ∧ W.heap[w.heap.size]? = some (.cells #[.slice (some ⟨g, 0, none⟩) n c, .slice a nh ch] 25 (0, 0)) := ⟨_, rfl, (by repeat (first | exact bw_refl _ | assumption | apply bw_drewN | apply bw_drew | apply bw_alloc | refine bw_set ?_ (by simp) _)), heap_new _ _⟩
  have hGW := hG.below BW
  have zg := hG.1.1.lt
  obtain ⟨⟨⟨h1, h2, h3, h4, h5⟩, h6⟩, ⟨h7, h8⟩, h9⟩ := hGW
  dsimp only at h1 h2 h3 h4 h5 h6 zg
  have hmark := markPts_any g n c (c * 2) 1 W h5.own (by omega) (by omega) (by omega) (by omega)
  obtain ⟨t0, t1⟩ := blk_2 T
  have zT := blk_lt T
  have n9 : (LoopT.mk g n c l).g ∉ hs.map LoopT.g := (List.nodup_cons.1 h9).1
  have HNd : Hid (hs.map LoopT.g).Nodup := (List.nodup_cons.1 h9).2
  go_enter Tryz.func9, Tryz.ntmps9
  go_upto_region 1 with fail
  rw [← hW]
  clear hW
  go_wp2_with fail
  refine hmark.mono ?_
  clear hmark
  rintro e w1 ⟨rfl, hN1, hO1, O1⟩
  have T1 := keepO O1 T (show w.heap.size ≠ g by omega)
  clear t0 t1
  obtain ⟨t0, t1⟩ := blk_2 T1
  have h7' := own_only' h7 O1 (by rw [hnh]; rw [hnh] at hne; exact hne _ List.mem_cons_self)
  have hss := markSS_own base (.slice a nh ch) hs (1 + 2 * (n : Int)) w1 (by rw [hnh] at h7'; rw [hnh]; exact h7') (fun t ht => ⟨(h8 t ht).1.2.2.2.2.own.only O1 (fun e => n9 (by show g ∈ _; rw [← e]; exact List.mem_map_of_mem ht)), (h8 t ht).1.2.2.2.1, (h8 t ht).1.2.1⟩) HNd.out (fun t ht => by rw [hnh] at hne; exact hne t (List.mem_cons_of_mem _ ht)) (by omega) (by omega) (by omega)
  go_wp2_with fail
  refine hss.mono ?_
  rintro e w2 ⟨rfl, hN2, hon⟩
  go_wp2_with fail
  go_ret
  have hlt1 : g < w1.heap.size := hO1.lt
  refine ⟨rfl, ⟨⟨Nat.lt_of_lt_of_le hlt1 hon.size, fun j hj => ?_⟩, hN2⟩, ?_, ?_⟩
  · have e : w2.cell? ⟨g, j, none⟩ = w1.cell? ⟨g, j, none⟩ := by unfold World.cell?; simp only [hon.block g n9 hlt1]
    show w2.cell? ⟨g, j, none⟩ = _
    rw [e]; exact hN1 j hj
  · rw [hnh] at h7'
    refine own_onlyL h7' hon (fun x hx e => ?_)
    obtain ⟨t, ht, rfl⟩ := List.mem_map.1 hx
    rw [hnh] at hne
    exact hne t (List.mem_cons_of_mem _ ht) e
  · refine (OnlyL.of_below BW).trans ((OnlyL.of_only O1 ?_).trans (hon.weak (fun x hx => List.mem_cons_of_mem _ hx)))
    exact List.mem_cons_self
set_option maxRecDepth 100000 in
set_option maxHeartbeats 2000000 in
theorem heldPl_own (base : Nat) (o : LoopT) (hv : Value) (hs : List LoopT) (w : World) (hr : w.ownsRow base 22 1 hv hs.length (hs.map LoopT.v)) (hN : NumL w (o :: hs) 1) (hno : o.n ≤ 1001) (hn1 : ∀ t ∈ hs, t.n ≤ 1001) (hn : hs.length ≤ 100) :
    Calls Tryz.prog 10 #[.agg #[o.v, hv], .int .i64 1] w fun e w' => e = .returned (.int .i64 (endL (o :: hs) 1)) ∧ Below w.heap.size w w' := by
  obtain ⟨a, ch, rfl⟩ := own_slice hr
  obtain ⟨nh, hnh⟩ : ∃ nh, hs.length = nh := ⟨_, rfl⟩
  have HNH : Hid (hs.length = nh) := hnh
  have hr0 := hr
  rw [hnh] at hn hr
  obtain ⟨g, n, c, l⟩ := o
  dsimp only at hno
  show Calls Tryz.prog 10 #[.agg #[.slice (some ⟨g, 0, none⟩) n c, .slice a hs.length ch], .int .i64 1] w _
  rw [hnh]
  obtain ⟨W, hW, BW, T⟩ : ∃ W, W = w.alloc (.cells #[.slice (some ⟨g, 0, none⟩) n c, .slice a nh ch] 25) ∧ Below w.heap.size w W ∧ W.heap[w.heap.size]? = some (.cells #[.slice (some ⟨g, 0, none⟩) n c, .slice a nh ch] 25 (0, 0)) := ⟨_, rfl, (by repeat (first | exact bw_refl _ | assumption | apply bw_drewN | apply bw_drew | apply bw_alloc | refine bw_set ?_ (by simp) _)), heap_new _ _⟩
  obtain ⟨⟨hg, hN1⟩, hN2⟩ := hN.below BW
  dsimp only at hg hN1 hN2
  have hheld := heldPts_any g n c 1 W hN1 hg (by omega) (by omega) (by omega)
  obtain ⟨t0, t1⟩ := blk_2 T
  have zT := blk_lt T
  have n2 : ¬ (1 + 2 * (n : Int) < 0) := by omega
  obtain ⟨e0, e1⟩ := endL_le (l := hs) (k := 1 + 2 * (n : Int)) hn1
  have n3 : ¬ (endL hs (1 + 2 * (n : Int)) < 0) := by omega
  go_enter Tryz.func10, Tryz.ntmps10
  go_upto_region 1 with fail
  rw [← hW]
  clear hW
  go_wp2_with fail
  refine hheld.mono ?_
  clear hheld
  rintro e w1 ⟨rfl, J1⟩
  have T1 := keep J1 T
  clear t0 t1
  obtain ⟨t0, t1⟩ := blk_2 T1
  have hr1 := own_below (own_below hr0 BW) J1
  rw [hnh] at hr1
  have hss := heldSS_own base (.slice a nh ch) hs (1 + 2 * (n : Int)) w1 (by rw [hnh]; exact hr1) (hN2.below J1) hn1 (by omega) (by omega) (by omega)
  generalize he : endL hs (1 + 2 * (n : Int)) = en at hss n3 e0 e1
  go_wp2_with fail
  refine hss.mono ?_
  rintro e w2 ⟨rfl, J2⟩
  go_wp2_with fail
  go_ret
  exact ⟨by rw [← he]; rfl, bw_trans BW (bw_trans J1 J2)⟩
set_option maxRecDepth 100000 in
set_option maxHeartbeats 2000000 in
theorem markPl_nil (w : World) :
    Calls Tryz.prog 9 #[.agg #[.slice none 0 0, .slice none 0 0], .int .i64 1] w fun e w' => e = .returned (.int .i64 1) ∧ Below w.heap.size w w' := by
  obtain ⟨W, hW, BW, T⟩ : ∃ W, W = w.alloc (.cells #[.slice none 0 0, .slice none 0 0] 25) ∧ Below w.heap.size w W ∧ W.heap[w.heap.size]? = some (.cells #[.slice none 0 0, .slice none 0 0] 25 (0, 0)) := ⟨_, rfl, (by repeat (first | exact bw_refl _ | assumption | apply bw_drewN | apply bw_drew | apply bw_alloc | refine bw_set ?_ (by simp) _)), heap_new _ _⟩
  obtain ⟨t0, t1⟩ := blk_2 T
  go_enter Tryz.func9, Tryz.ntmps9
  go_upto_region 1 with fail
  rw [← hW]
  clear hW
  go_wp2_with fail
  refine (markNil_any none 0 W).mono ?_
  rintro e w1 ⟨rfl, J1⟩
  have T1 := keep J1 T
  clear t0 t1
  obtain ⟨t0, t1⟩ := blk_2 T1
  have hss := markSS_own 0 (.slice none 0 0) [] 1 w1 (World.ownsRow_nil _ _ _ _) (fun t ht => by cases ht) List.nodup_nil (fun t ht => by cases ht) (by simp) (by omega) (by omega)
  go_wp2_with fail
  refine hss.mono ?_
  rintro e w2 ⟨rfl, -, hon⟩
  go_wp2_with fail
  go_ret
  exact ⟨rfl, bw_trans BW (bw_trans J1 (hon.below (fun g hg => by cases hg) (Nat.le_refl _)))⟩
set_option maxRecDepth 100000 in
set_option maxHeartbeats 2000000 in
theorem heldPl_nil (w : World) :
    Calls Tryz.prog 10 #[.agg #[.slice none 0 0, .slice none 0 0], .int .i64 1] w fun e w' => e = .returned (.int .i64 1) ∧ Below w.heap.size w w' := by
  obtain ⟨W, hW, BW, T⟩ : ∃ W, W = w.alloc (.cells #[.slice none 0 0, .slice none 0 0] 25) ∧ Below w.heap.size w W ∧ W.heap[w.heap.size]? = some (.cells #[.slice none 0 0, .slice none 0 0] 25 (0, 0)) := ⟨_, rfl, (by repeat (first | exact bw_refl _ | assumption | apply bw_drewN | apply bw_drew | apply bw_alloc | refine bw_set ?_ (by simp) _)), heap_new _ _⟩
  obtain ⟨t0, t1⟩ := blk_2 T
  go_enter Tryz.func10, Tryz.ntmps10
  go_upto_region 1 with fail
  rw [← hW]
  clear hW
  go_wp2_with fail
  refine (heldNil_any none 0 W).mono ?_
  rintro e w1 ⟨rfl, J1⟩
  have T1 := keep J1 T
  clear t0 t1
  obtain ⟨t0, t1⟩ := blk_2 T1
  have hss := heldSS_own 0 (.slice none 0 0) [] 1 w1 (World.ownsRow_nil _ _ _ _) trivial (fun t ht => by cases ht) (by simp) (by omega) (by omega)
  go_wp2_with fail
  refine hss.mono ?_
  rintro e w2 ⟨rfl, J2⟩
  go_wp2_with fail
  go_ret
  exact ⟨rfl, bw_trans BW (bw_trans J1 J2)⟩
end Go.Proofs.YthjnfjnnpabenaaGreatDoor
namespace Go.Proofs.YthjnfjnnpabenaaGreatDoor
open Go.RowKit Go.Sort

theorem setCell_1 {W : World} {b : Nat} {x y : Value} {t : TypeId} (h : Lies b #[x, y] t W) (v : Value) : Lies b #[v, y] t (W.setCell ⟨b, 0, none⟩ v) := by
  obtain ⟨hlt, hk⟩ := Array.getElem?_eq_some_iff.1 h
  show (W.heap.modify b _)[b]? = _
  rw [Array.getElem?_eq_getElem (by rw [Array.size_modify]; exact hlt), Array.getElem_modify_self, hk]
  rfl
set_option maxRecDepth 100000 in
set_option maxHeartbeats 1000000 in
theorem eqPtSS_same (a c : Option Addr) (nh ch ch' : Nat) (hs : List (List P2)) (A A' : Nat → Option Addr) (L C L' C' : Nat → Nat) (w : World) (hS : SlcRow w.heap.size w a nh A L C) (hS' : SlcRow w.heap.size w c nh A' L' C')
    (hH : ∀ j, j < nh → L j ≤ 1048576 ∧ Pts w.heap.size w (A j) (L j) (hs[j]?.getD [])) (hH' : ∀ j, j < nh → L' j ≤ 1048576 ∧ Pts w.heap.size w (A' j) (L' j) (hs[j]?.getD [])) (hn : nh ≤ 1048576) :
    Calls Tryz.prog 23 #[.slice a nh ch, .slice c nh ch'] w fun e w' => e = .returned (.bool true) ∧ Below w.heap.size w w' := by
  go_enter Tryz.func23, Tryz.ntmps23
  go_wp2
  go_loopw [5] (fun i wr => ∃ k : Nat, k ≤ nh ∧ i = .int .i64 k ∧ Below w.heap.size w wr) (fun i _ => nh - (intOf i).toNat)
  case atStart => exact ⟨0, Nat.zero_le _, rfl, bw_refl _⟩
  case round =>
    obtain ⟨k, hk, rfl, hnx⟩ := hrel
    by_cases hlt : k < nh
    · rcases hS with h0 | ⟨b, off, rfl, hbl, hc⟩
      · omega
      rcases hS' with h0 | ⟨b', off', rfl, hbl', hc'⟩
      · omega
      have d0 := cell_regrown ((hnx.cell (p := ⟨b, off + k, none⟩) hbl).trans (hc k hlt))
      have d1 := cell_regrown ((hnx.cell (p := ⟨b', off' + k, none⟩) hbl').trans (hc' k hlt))
      have i0 : (0 : Int) ≤ (k : Int) := Int.natCast_nonneg _
      have i1 : (k : Int) < (nh : Int) := by omega
      obtain ⟨hL1, hP1⟩ := hH k hlt
      obtain ⟨hL2, hP2⟩ := hH' k hlt
      have hPw1 := (hP1.below hnx).grow hnx.size
      have hPw2 := (hP2.below hnx).grow hnx.size
      have eL : L' k = L k := by have := hP1.1; have := hP2.1; omega
      have HX : Hid (∀ d os, Calls Tryz.prog 22 #[.slice (A k) (L k) (C k), .slice (A' k) (L' k) (C' k)] (grow (redrawn wr d) os) fun e W' => e = .returned (.bool true) ∧ Below (grow (redrawn wr d) os).heap.size (grow (redrawn wr d) os) W') := fun d os => by
        rw [eL] at hPw2 ⊢
        exact eqPts_same (A k) (A' k) (L k) (C k) (C' k) (hs[k]?.getD []) _ ((hPw1.below (below_regrown wr d os)).grow (below_regrown wr d os).size) ((hPw2.below (below_regrown wr d os)).grow (below_regrown wr d os).size) hL1
      clear hc hc' hP1 hP2 hPw1 hPw2 eL
      go_wp2_with fail
      refine wp_region_quiet_below (by kernel_rfl) (by kernel_rfl) ?_
      repeat (first | go_big_quiet_step (first | (go_at_call 22; with_reducible exact Calls.regrown_of (HX.out _ _))))
      refine wpQuiet_nil ?_
      intro _ hw'
      obtain ⟨⟨dq, osq⟩, hw''⟩ := hw'
      subst hw''
      have J := below_regrown wr dq osq
      generalize grow (redrawn wr dq) osq = w1 at J ⊢
      go_wp2_with fail
      go_roundw
      case rel => exact ⟨k + 1, by omega, by simp, bw_trans hnx J⟩
      case measure => simp [intOf]; omega
    · obtain rfl : k = nh := by omega
      go_wp2
      go_ret
      exact ⟨rfl, hnx⟩
set_option maxRecDepth 100000 in
set_option maxHeartbeats 1000000 in
theorem eqPlate_same (a ah c cH : Option Addr) (la ca nh ch ca' ch' : Nat) (o : List P2) (hs : List (List P2)) (w : World) (h : Plt w a la ah nh o hs) (h' : Plt w c la cH nh o hs) (hn : nh ≤ 1048576) :
    Calls Tryz.prog 8 #[.agg #[.slice a la ca, .slice ah nh ch], .agg #[.slice c la ca', .slice cH nh ch']] w fun e w' => e = .returned (.bool true) ∧ Below w.heap.size w w' := by
  obtain ⟨W, hW, BW, T0, T1⟩ := boxes2 w (.cells #[.slice a la ca, .slice ah nh ch] 25) (.cells #[.slice c la ca', .slice cH nh ch'] 25)
  obtain ⟨hla, hP, hlen, A, L, C, hS, hH⟩ := h.below BW
  obtain ⟨_, hP', _, A', L', C', hS', hH'⟩ := h'.below BW
  obtain ⟨t0, t1⟩ := blk_2 T0
  obtain ⟨u0, u1⟩ := blk_2 T1
  have z0 := blk_lt T0
  have z1 := blk_lt T1
  go_enter Tryz.func8, Tryz.ntmps8
  go_upto_region 1 with fail
  rw [← hW]
  clear hW
  go_wp2_with (go_at_call 22; refine (eqPts_same a c la ca ca' o W hP hP' hla).mono ?_; rintro e w1 ⟨rfl, J⟩; obtain ⟨t0', t1'⟩ := blk_2 (keep J T0); obtain ⟨u0', u1'⟩ := blk_2 (keep J T1); have z0' := blk_lt (keep J T0); have z1' := blk_lt (keep J T1))
  refine (eqPtSS_same ah cH nh ch ch' hs A A' L C L' C' w1 ((hS.below J).grow J.size) ((hS'.below J).grow J.size) (fun j hj => ⟨(hH j hj).1, ((hH j hj).2.below J).grow J.size⟩) (fun j hj => ⟨(hH' j hj).1, ((hH' j hj).2.below J).grow J.size⟩) hn).mono ?_
  rintro e w2 ⟨rfl, J2⟩
  go_wp2_with fail
  go_ret
  exact ⟨rfl, bw_trans (bw_trans BW J) J2⟩
end Go.Proofs.YthjnfjnnpabenaaGreatDoor
namespace Go.Proofs.YthjnfjnnpabenaaGreatDoor
open Go.RowKit Go.Sort

theorem readPl_hol (z : List UInt8) : (holP (readPl z)).length ≤ 2 := by
  unfold readPl
  split
  · split
    · split
      · rename_i h; exact (plV_all h).2.1
      · exact Nat.zero_le _
    · exact Nat.zero_le _
  · exact Nat.zero_le _
theorem eqPl_ans (b b' : Nat) (v v' : Value) (r : Option (List (List P2))) (w w0 : World) (h : PlAns b w v r) (h' : PlAns b' w0 v' r) (J : Below w0.heap.size w0 w) (hn : (holP r).length ≤ 2) :
    Calls Tryz.prog 8 #[v, v'] w fun e w' => e = .returned (.bool true) ∧ Below w.heap.size w w' := by
  obtain ⟨a, c, ah, ch, rfl, hp⟩ := h.plt
  obtain ⟨a', c', ah', ch', rfl, hp'⟩ := h'.plt
  exact eqPlate_same a ah a' ah' _ c _ ch c' ch' _ _ w hp (hp'.below J) (by omega)
/-- A plate is marked: its holding says so from now on. -/
def Held (W : World) (v : Value) (u : Int) : Prop := ∀ W', Below W.heap.size W W' → Calls Tryz.prog 10 #[v, .int .i64 1] W' fun e W'' => e = .returned (.int .i64 u) ∧ Below W'.heap.size W' W''
theorem mark_ans (b : Nat) (v : Value) (r : Option (List (List P2))) (w0 w : World) (h : PlAns b w0 v r) (J0 : Below w0.heap.size w0 w) (hn : (holP r).length ≤ 2) :
    Calls Tryz.prog 9 #[v, .int .i64 1] w fun e w' => ∃ u : Int, 1 ≤ u ∧ e = .returned (.int .i64 u) ∧ Held w' v u ∧ ∃ gs : List Nat, (∀ g ∈ gs, b ≤ g ∧ g < w0.heap.size) ∧ OnlyL gs w w' := by
  have nil' : v = .agg #[.slice none 0 0, .slice none 0 0] → Calls Tryz.prog 9 #[v, .int .i64 1] w fun e w' => ∃ u : Int, 1 ≤ u ∧ e = .returned (.int .i64 u) ∧ Held w' v u ∧ ∃ gs : List Nat, (∀ g ∈ gs, b ≤ g ∧ g < w0.heap.size) ∧ OnlyL gs w w' := fun hv => by
    subst hv
    refine (markPl_nil w).mono ?_
    rintro e w' ⟨rfl, J⟩
    exact ⟨1, by omega, rfl, fun W' _ => heldPl_nil W', [], (by intro g hg; cases hg), OnlyL.of_below J⟩
  rcases r with _ | (_ | ⟨o, hs⟩)
  · exact nil' h
  · exact nil' h
  · obtain ⟨t, hv, ts, rfl, hP0, e1, e2⟩ := h
    have hP := hP0.below J0
    have hlen : ts.length = hs.length := by rw [← e2, List.length_map]
    have hn' : ts.length ≤ 2 := by rw [hlen]; exact hn
    refine (markPl_own b t hv ts w hP (by omega)).mono ?_
    rintro e w' ⟨rfl, hN, hr, hon⟩
    have h1 : ∀ x ∈ t :: ts, x.n ≤ 1001 := fun x hx => by
      rcases List.mem_cons.1 hx with rfl | hx
      · exact hP.1.1.2.1
      · exact (hP.2.1.2 x hx).1.2.1
    refine ⟨endL (t :: ts) 1, (endL_le h1).1, rfl, fun W' J => heldPl_own b t hv ts W' (own_below hr J) (hN.below J) (h1 t List.mem_cons_self) (fun x hx => h1 x (List.mem_cons_of_mem _ hx)) (by omega), (t :: ts).map LoopT.g, ?_, hon⟩
    intro g hg
    obtain ⟨x, hx, rfl⟩ := List.mem_map.1 hg
    rcases List.mem_cons.1 hx with rfl | hx
    · exact ⟨hP0.1.2, hP0.1.1.lt⟩
    · exact ⟨(hP0.2.1.2 x hx).2, (hP0.2.1.2 x hx).1.lt⟩
theorem PlAns.shape {b : Nat} {w : World} {v : Value} {r : Option (List (List P2))} (h : PlAns b w v r) : ∃ a n c a' n' c', v = .agg #[.slice a n c, .slice a' n' c'] := by
  obtain ⟨a, c, ah, ch, e, _⟩ := h.plt
  exact ⟨_, _, _, _, _, _, e⟩
theorem onlyL_keep {gs : List Nat} {W W' : World} {b : Nat} {o : Obj} (O : OnlyL gs W W') (h : W.heap[b]? = some o) (hb : b ∉ gs) : W'.heap[b]? = some o := (O.block b hb (blk_lt h)).trans h
set_option maxRecDepth 100000 in
set_option maxHeartbeats 2000000 in
theorem exPlateRead_walk (s : ByteArray) (_ : s.size ≤ maxLen) (W : World) (hL : Lib4 W) :
    Calls Tryz.prog 3 #[.string s] W fun e w' => e = .returned (.bool true) ∧ Below W.heap.size W w' := by
  by_cases hlen : (1048576 : Int) < (s.size : Int)
  · go_enter Tryz.func3, Tryz.ntmps3
    go_wp2_with fail
    go_ret
    exact ⟨rfl, (by repeat (first | exact bw_refl _ | assumption | apply bw_drewN | apply bw_drew | apply bw_alloc | refine bw_set ?_ (by simp) _))⟩
  have hS := fun V => sPlateRead_ok s (by omega) V
  have hR := fun V (hV : Lib4 V) => plateRead_any s (by omega) V hV
  have h2 := readPl_hol s.data.toList
  have hb : ∀ b : Bool, (b != b) = false := by simp
  generalize readPl s.data.toList = r at *
  generalize r.isSome = b at *
  go_enter Tryz.func3, Tryz.ntmps3
  go_wp2_with fail
  refine (hS _).mono ?_
  rintro e w1 ⟨v1, rfl, A1, J1⟩
  obtain ⟨a1, n1, c1, b1, m1, d1, rfl⟩ := A1.shape
  obtain ⟨W1, hW1, B1, T1⟩ : ∃ V, V = w1.alloc (.cells #[.slice a1 n1 c1, .slice b1 m1 d1] 25) ∧ Below w1.heap.size w1 V ∧ V.heap[w1.heap.size]? = some (.cells #[.slice a1 n1 c1, .slice b1 m1 d1] 25 (0, 0)) := ⟨_, rfl, (by repeat (first | exact bw_refl _ | assumption | apply bw_drewN | apply bw_drew | apply bw_alloc | refine bw_set ?_ (by simp) _)), heap_new _ _⟩
  have T1' := T1
  rw [hW1] at T1'
  obtain ⟨p0, p1, p2, p3⟩ := blk2 T1'
  have K1 := bw_trans J1 B1
  have z1 := J1.size
  have zB1 := B1.size
  go_wp2_with fail
  rw [← hW1]
  clear hW1
  refine (hR _ (hL.below K1)).mono ?_
  rintro e w2 ⟨v2, rfl, A2, J2⟩
  obtain ⟨a2, n2, c2, b2, m2, d2, rfl⟩ := A2.shape
  obtain ⟨W2, hW2, B2, T2⟩ : ∃ V, V = w2.alloc (.cells #[.slice a2 n2 c2, .slice b2 m2 d2] 25) ∧ Below w2.heap.size w2 V ∧ V.heap[w2.heap.size]? = some (.cells #[.slice a2 n2 c2, .slice b2 m2 d2] 25 (0, 0)) := ⟨_, rfl, (by repeat (first | exact bw_refl _ | assumption | apply bw_drewN | apply bw_drew | apply bw_alloc | refine bw_set ?_ (by simp) _)), heap_new _ _⟩
  have T12 := keep B2 (keep J2 T1)
  have Q2 : Below w1.heap.size w1 W2 := bw_trans (bw_trans B1 J2) B2
  have T12' := T12
  have T2' := T2
  rw [hW2] at T12' T2'
  obtain ⟨p0, p1, p2, p3⟩ := blk2 T12'
  obtain ⟨q0, q1, q2, q3⟩ := blk2 T2'
  have z2 := J2.size
  have zB2 := B2.size
  go_wp2_with fail
  rw [← hW2]
  clear hW2
  refine (eqPl_ans _ _ (.agg #[.slice a2 n2 c2, .slice b2 m2 d2]) (.agg #[.slice a1 n1 c1, .slice b1 m1 d1]) r W2 w1 (A2.below B2) A1 Q2 h2).mono ?_
  rintro e w3 ⟨rfl, J3⟩
  have T13 := keep J3 T12
  have T23 := keep J3 T2
  have Q3 := bw_trans Q2 J3
  have J23 := bw_trans B2 J3
  obtain ⟨p0, p1, p2, p3⟩ := blk2 T13
  obtain ⟨q0, q1, q2, q3⟩ := blk2 T23
  have z3 := J3.size
  go_wp2_with fail
  refine (mark_ans _ (.agg #[.slice a2 n2 c2, .slice b2 m2 d2]) r w2 w3 A2 J23 h2).mono ?_
  rintro e w4 ⟨u, hu, rfl, hH, gs, hgs, hon⟩
  have z4 := hon.size
  have T14 := onlyL_keep hon T13 (fun hm => by have := hgs _ hm; have := blk_lt T1; omega)
  have T24 := onlyL_keep hon T23 (fun hm => by have := hgs _ hm; omega)
  have Q4 : Below w1.heap.size w1 w4 := Q3.trans (hon.below (fun g hg => by have := hgs g hg; omega) (by omega))
  have K4 := bw_trans J1 Q4
  have n2' : ¬ (u < 0) := by omega
  obtain ⟨q0, q1, q2, q3⟩ := blk2 T24
  go_wp2_with fail
  refine (hH w4 (bw_refl _)).mono ?_
  rintro e w5 ⟨rfl, J5⟩
  have Q5 := bw_trans Q4 J5
  have K5 := bw_trans J1 Q5
  go_wp2_with fail
  refine (hR _ (hL.below K5)).mono ?_
  rintro e w6 ⟨v6, rfl, A6, J6⟩
  obtain ⟨a6, n6, c6, b6, m6, d6, rfl⟩ := A6.shape
  obtain ⟨W6, hW6, B6, T6⟩ : ∃ V, V = w6.alloc (.cells #[.slice a6 n6 c6, .slice b6 m6 d6] 25) ∧ Below w6.heap.size w6 V ∧ V.heap[w6.heap.size]? = some (.cells #[.slice a6 n6 c6, .slice b6 m6 d6] 25 (0, 0)) := ⟨_, rfl, (by repeat (first | exact bw_refl _ | assumption | apply bw_drewN | apply bw_drew | apply bw_alloc | refine bw_set ?_ (by simp) _)), heap_new _ _⟩
  have J46 := bw_trans (bw_trans J5 J6) B6
  have Q6 := bw_trans Q4 J46
  have T16 := keep J46 T14
  have T26 := keep J46 T24
  have T6' := T6
  rw [hW6] at T16 T26 T6'
  obtain ⟨p0, p1, p2, p3⟩ := blk2 T16
  obtain ⟨q0, q1, q2, q3⟩ := blk2 T26
  obtain ⟨r0, r1, r2, r3⟩ := blk2 T6'
  go_wp2_with fail
  rw [← hW6]
  clear hW6
  refine (eqPl_ans _ _ (.agg #[.slice a6 n6 c6, .slice b6 m6 d6]) (.agg #[.slice a1 n1 c1, .slice b1 m1 d1]) r W6 w1 (A6.below B6) A1 Q6 h2).mono ?_
  rintro e w7 ⟨rfl, J7⟩
  have J47 := bw_trans J46 J7
  have Q7 := bw_trans Q6 J7
  obtain ⟨q0, q1, q2, q3⟩ := blk2 (keep J47 T24)
  go_wp2_with fail
  refine (hH w7 J47).mono ?_
  rintro e w8 ⟨rfl, J8⟩
  go_wp2_with fail
  go_ret
  exact ⟨rfl, bw_trans J1 (bw_trans Q7 J8)⟩
end Go.Proofs.YthjnfjnnpabenaaGreatDoor
namespace Go.Proofs.YthjnfjnnpabenaaGreatDoor
open Go.RowKit Go.Sort

theorem okV_pt8 {pts : List P2} (h : okV pts = true) {i : Nat} (hi : i < pts.length) : ptB (ptAt pts i).1 (ptAt pts i).2 = true := (sgP_pt (((okV_iff pts).1 h).seg i hi)).1
/-- The text of a loop. -/
def ltB (l : List P2) : ByteArray := if okV l then txB l else ⟨#[]⟩
theorem loopText_any (a : Option Addr) (len cap : Nat) (l : List P2) (hlen : len ≤ 1048576) (w : World) (hT : Tab w) (hP : Pts w.heap.size w a len l) :
    Calls Tryz.prog 14 #[.slice a len cap] w fun e w' => e = .returned (.string (ltB l)) ∧ Below w.heap.size w w' := by
  have hO := ok_any a len cap l hlen w hP
  cases hv : okV l
  · have e1 : Hid (ltB l = ⟨#[]⟩) := by change _ = _; unfold ltB; rw [hv]; rfl
    rw [hv] at hO
    go_enter Tryz.func14, Tryz.ntmps14
    go_wp2_with fail
    refine hO.mono ?_
    rintro e w1 ⟨rfl, J⟩
    go_wp2_with fail
    go_ret
    exact ⟨ret_str e1.out.symm, J⟩
  · have e1 : Hid (ltB l = txB l) := by change _ = _; unfold ltB; rw [hv]; rfl
    have hok : ∀ i, i < len → ptB (ptAt l i).1 (ptAt l i).2 = true := fun i hi => okV_pt8 hv (by rw [hP.1]; exact hi)
    have h8 : len ≤ 8 := by have := (okV_pos hv).2; rw [hP.1] at this; exact this
    rw [hv] at hO
    go_enter Tryz.func14, Tryz.ntmps14
    go_wp2_with fail
    refine hO.mono ?_
    rintro e w1 ⟨rfl, J⟩
    go_wp2_with fail
    refine (ptsText_ok a len cap l (by omega) _ (hT.below J) ((hP.below J).grow J.size) hok).mono ?_
    rintro e w2 ⟨rfl, J2⟩
    go_wp2_with fail
    go_ret
    exact ⟨ret_str e1.out.symm, bw_trans J J2⟩
end Go.Proofs.YthjnfjnnpabenaaGreatDoor
namespace Go.Proofs.YthjnfjnnpabenaaGreatDoor
open Go.RowKit Go.Sort

/-- The letters of loops, a line each. -/
def ptxL (ls : List (List P2)) : List UInt8 := ls.flatMap fun l => txL l ++ [10]
theorem ptxL_snoc (ls : List (List P2)) (l : List P2) : ptxL (ls ++ [l]) = ptxL ls ++ txL l ++ [10] := by unfold ptxL; simp [List.append_assoc]
/-- The text of a plate. -/
def ptB' (o : List P2) (hs : List (List P2)) : ByteArray := if plV o hs then ⟨(ptxL (o :: hs)).toArray⟩ else ⟨#[]⟩
theorem tx_short {l : List P2} (h : okV l = true) : (txL l).length ≤ 352 := by
  have h8 := (okV_pos h).2
  have := txL_len l (fun p hp => by
      obtain ⟨j, hj, rfl⟩ := List.getElem_of_mem hp
      have := okV_pt8 h hj
      unfold ptAt at this
      rwa [List.getElem?_eq_getElem hj, Option.getD_some] at this)
  omega
theorem cells_app (a b : List UInt8) : Lib.byteCells (a ++ b) = Lib.byteCells a ++ Lib.byteCells b := by unfold Lib.byteCells; rw [List.map_append]
theorem cells_len (a : List UInt8) : (Lib.byteCells a).length = a.length := by unfold Lib.byteCells; rw [List.length_map]
set_option maxRecDepth 100000 in
set_option maxHeartbeats 4000000 in
theorem plateText_any (a ah : Option Addr) (la ca nh ch : Nat) (o : List P2) (hs : List (List P2)) (w : World) (hT : Tab w) (h : Plt w a la ah nh o hs) :
    Calls Tryz.prog 12 #[.agg #[.slice a la ca, .slice ah nh ch]] w fun e W' => e = .returned (.string (ptB' o hs)) ∧ Below w.heap.size w W' := by
  obtain ⟨W, hW, BW, TP⟩ : ∃ W, W = w.alloc (.cells #[.slice a la ca, .slice ah nh ch] 25) ∧ Below w.heap.size w W ∧ W.heap[w.heap.size]? = some (.cells #[.slice a la ca, .slice ah nh ch] 25 (0, 0)) := ⟨_, rfl, (by repeat (first | exact bw_refl _ | assumption | apply bw_drewN | apply bw_drew | apply bw_alloc | refine bw_set ?_ (by simp) _)), heap_new _ _⟩
  have zB := BW.size
  have hb := board_any0 a ah la ca nh ch o hs w.heap.size W zB (h.base BW)
  obtain ⟨t0, t1⟩ := blk_2 TP
  cases hv : plV o hs
  · have e1 : Hid (ptB' o hs = ⟨#[]⟩) := by change _ = _; unfold ptB'; rw [hv]; rfl
    rw [hv] at hb
    go_enter Tryz.func12, Tryz.ntmps12
    go_upto_region 1 with fail
    rw [← hW]
    clear hW
    go_wp2_with fail
    refine hb.mono ?_
    rintro e w1 ⟨q, rfl, J, -⟩
    go_wp2_with fail
    go_ret
    exact ⟨ret_str e1.out.symm, bw_trans BW J⟩
  have L := (plV_iff _ _).1 hv
  have e1 : Hid (ptB' o hs = ⟨(ptxL (o :: hs)).toArray⟩) := by change _ = _; unfold ptB'; rw [hv]; rfl
  rw [hv] at hb
  go_enter Tryz.func12, Tryz.ntmps12
  go_upto_region 1 with fail
  rw [← hW]
  clear hW
  go_wp2_with fail
  refine hb.mono ?_
  rintro e v0 ⟨q, rfl, J, hR⟩
  obtain ⟨b, xs, rfl, hR, hx⟩ := hR (by first | exact hv | trivial)
  have K := bw_trans BW J
  have hall : Hid (∀ x ∈ (⟨a, la, ca, o⟩ :: xs : List RingT), okV x.pts = true) := fun x hx' => by
    rcases List.mem_cons.1 hx' with e | e
    · subst e; exact L.out
    · exact L.ok _ (by rw [← hx]; exact List.mem_map.2 ⟨x, e, rfl⟩)
  have hl3 : xs.length ≤ 2 := by have := L.len; rw [← hx, List.length_map] at this; exact this
  have hmap : Hid ((⟨a, la, ca, o⟩ :: xs : List RingT).map RingT.pts = o :: hs) := by change _ = _; rw [List.map_cons, hx]
  have hTv := hT.below K
  have zv := K.size
  have hnew := heap_new v0 (.cells #[.pointer none, .slice none 0 0] 56)
  have hI : Lib.IsBuilderF 56 5 v0.heap.size v0.heap.size (Lib.byteCells (ptxL [])) (v0.alloc (.cells #[.pointer none, .slice none 0 0] 56)) :=
    .inl ⟨Nat.le_refl _, .slice none 0 0, hnew, World.ownsRowF_nil _ _ _ _, by simp [Value.ownBlock]⟩
  have hB0 : Below v0.heap.size v0 (v0.alloc (.cells #[.pointer none, .slice none 0 0] 56)) := (by repeat (first | exact bw_refl _ | assumption | apply bw_drewN | apply bw_drew | apply bw_alloc | refine bw_set ?_ (by simp) _))
  have hRb := hR
  obtain ⟨b0, q0, tt0, e0, ob, ol, oP, hR'⟩ := hRb
  cases e0
  clear hb L hx hnew t0 t1 TP ob ol oP hR' h
  go_wp2_with fail
  obtain ⟨v1, hv1⟩ : ∃ v1, v0.alloc (.cells #[.pointer none, .slice none 0 0] 56) = v1 := ⟨_, rfl⟩
  rw [hv1] at hI hB0 ⊢
  clear hv1
  go_loopw [6] (fun q wr => ∃ (q' : Option Addr) (rest : List RingT) (dn : List (List P2)), q = .pointer q' ∧ dn ++ rest.map RingT.pts = o :: hs ∧ dn.length + rest.length ≤ 3 ∧ (ptxL dn).length ≤ 353 * dn.length ∧ RingL w.heap.size v0 q' rest ∧ (∀ x ∈ rest, okV x.pts = true) ∧ Lib.IsBuilderF 56 5 v0.heap.size v0.heap.size (Lib.byteCells (ptxL dn)) wr ∧ Below v0.heap.size v0 wr) (fun q wr => ringsLeft wr q)
  case atStart => exact ⟨_, ⟨a, la, ca, o⟩ :: xs, [], rfl, by rw [List.nil_append]; exact hmap.out, by simp; omega, by simp [ptxL], hR, hall.out, hI, hB0⟩
  case round =>
    obtain ⟨q', rest, dn, rfl, hde, hdl, hpl, hL, hak, hIB, hnx⟩ := hrel
    have hLw := hL.below hnx zv
    have zw := hnx.size
    cases rest with
    | nil =>
      obtain rfl : q' = none := hL
      have hS := shelf_Builder_String_any_k v0.heap.size v0.heap.size (ptxL dn) wr hIB zw
      rw [List.map_nil, List.append_nil] at hde
      have e2 : Hid (ptB' o hs = ⟨(ptxL dn).toArray⟩) := by change _ = _; rw [e1.out, hde]
      clear hIB hLw hde hdl hpl
      go_wp2_with fail
      refine hS.mono ?_
      rintro e w2 ⟨rfl, -, J2, -⟩
      go_wp2_with fail
      go_ret
      exact ⟨ret_str e2.out.symm, bw_trans K (hnx.trans J2)⟩
    | cons y ys =>
      have hL' := hLw
      have hLv := hL
      obtain ⟨b1, q1, t1, rfl, hb, hlen, hP, hr⟩ := hL
      have hbw := hb.below hnx
      obtain ⟨d0, d1, _, _⟩ := lies2 hbw
      have hoy := hak y (by simp)
      have h8 := (okV_pos hoy).2
      have hsh := tx_short hoy
      have hyl : y.pts.length = y.len := hP.1
      have hPw := (hP.below (hnx.mono zv)).grow (show w.heap.size ≤ wr.heap.size by omega)
      have hok : ∀ i, i < y.len → ptB (ptAt y.pts i).1 (ptAt y.pts i).2 = true := fun i hi => okV_pt8 hoy (by rw [hyl]; exact hi)
      have hPT := ptsText_ok y.a y.len y.cap y.pts (by omega) wr (hTv.below hnx) hPw hok
      have hdl' : dn.length ≤ 2 := by simp only [List.length_cons] at hdl; omega
      go_wp2_with fail
      refine hPT.mono ?_
      rintro e w2 ⟨rfl, J2⟩
      have hI2 := hIB.below J2
      have z2 := J2.size
      have hsz : (txB y.pts).size ≤ 352 := by have := txB_size y.pts; unfold txB ByteArray.size; simpa using hsh
      have hW := shelf_Builder_WriteString v0.heap.size v0.heap.size (Lib.byteCells (ptxL dn)) (txB y.pts) w2 hI2 (by rw [cells_len]; omega) (by omega)
      clear hPT hI2 hIB d0 d1
      go_wp2_with fail
      refine hW.mono ?_
      rintro e w3 ⟨rfl, hA3, J3, -⟩
      have z3 := J3.size
      have hI3 : Lib.IsBuilderF 56 5 v0.heap.size v0.heap.size (Lib.byteCells (ptxL dn ++ txL y.pts)) w3 := by rw [cells_app]; exact .inr hA3
      have hW3 := shelf_Builder_WriteByte v0.heap.size v0.heap.size (Lib.byteCells (ptxL dn ++ txL y.pts)) 10 w3 hI3 (by rw [cells_len, List.length_append]; omega) (by omega)
      clear hW hA3 hI3
      go_wp2_with fail
      refine hW3.mono ?_
      rintro e w4 ⟨rfl, hA4, J4, -⟩
      have hI4 : Lib.IsBuilderF 56 5 v0.heap.size v0.heap.size (Lib.byteCells (ptxL (dn ++ [y.pts]))) w4 := by rw [ptxL_snoc, cells_app]; exact .inr hA4
      have hn4 : Below v0.heap.size v0 w4 := (((hnx.trans (J2.mono zw)).trans J3).trans J4)
      obtain ⟨d0, d1, _, _⟩ := lies2 (hb.below hn4)
      clear hW3 hA4
      go_wp2_with fail
      go_roundw
      case rel => exact ⟨q1, ys, dn ++ [y.pts], rfl, by rw [← hde]; simp, by simp only [List.length_cons, List.length_append, List.length_nil] at hdl ⊢; omega, by rw [ptxL_snoc]; simp only [List.length_append, List.length_cons, List.length_nil]; omega, hr, fun x hx => hak x (by simp [hx]), hI4, hn4⟩
      case measure => rw [ringsLeft_eq (hr.below hn4 zv), ringsLeft_eq hL']; simp
set_option maxRecDepth 100000 in
set_option maxHeartbeats 4000000 in
theorem sPlateText_any (a ah : Option Addr) (la ca nh ch : Nat) (o : List P2) (hs : List (List P2)) (w : World) (h : Plt w a la ah nh o hs) :
    Calls Tryz.prog 13 #[.agg #[.slice a la ca, .slice ah nh ch]] w fun e W' => e = .returned (.string (ptB' o hs)) ∧ Below w.heap.size w W' := by
  obtain ⟨W, hW, BW, TP⟩ : ∃ W, W = w.alloc (.cells #[.slice a la ca, .slice ah nh ch] 25) ∧ Below w.heap.size w W ∧ W.heap[w.heap.size]? = some (.cells #[.slice a la ca, .slice ah nh ch] 25 (0, 0)) := ⟨_, rfl, (by repeat (first | exact bw_refl _ | assumption | apply bw_drewN | apply bw_drew | apply bw_alloc | refine bw_set ?_ (by simp) _)), heap_new _ _⟩
  have zB := BW.size
  have hh := h.below BW
  have hOk := sPlateOk_any a ah la ca nh ch o hs W hh
  obtain ⟨t0, t1⟩ := blk_2 TP
  cases hv : plV o hs
  · have e1 : Hid (ptB' o hs = ⟨#[]⟩) := by change _ = _; unfold ptB'; rw [hv]; rfl
    rw [hv] at hOk
    go_enter Tryz.func13, Tryz.ntmps13
    go_upto_region 1 with fail
    rw [← hW]
    clear hW
    go_wp2_with fail
    refine hOk.mono ?_
    rintro e w1 ⟨rfl, J⟩
    go_wp2_with fail
    go_ret
    exact ⟨ret_str e1.out.symm, bw_trans BW J⟩
  have hPV := (plV_iff _ _).1 hv
  have e1 : Hid (ptB' o hs = ⟨(ptxL (o :: hs)).toArray⟩) := by change _ = _; unfold ptB'; rw [hv]; rfl
  rw [hv] at hOk
  have hoo : okV o = true := hPV.out
  have HO : Hid (∀ j, j < nh → okV (hs[j]?.getD []) = true) := by
    obtain ⟨_, _, hlen, _⟩ := hh
    exact fun j hj => hPV.ok _ (by rw [List.getElem?_eq_getElem (by omega), Option.getD_some]; exact List.getElem_mem _)
  obtain ⟨hla, hP, hlen, A, L, C, hS, hH⟩ := hh
  have HL : Hid (hs.length = nh) := hlen
  have hnh : nh ≤ 2 := by have := hPV.len; omega
  have HS : Hid (∀ k, k < nh → ptxL (o :: hs.take (k + 1)) = ptxL (o :: hs.take k) ++ txL (hs[k]?.getD []) ++ [10]) := fun k hk => by
    have e : o :: hs.take (k + 1) = (o :: hs.take k) ++ [hs[k]?.getD []] := by
      rw [List.take_add_one, List.getElem?_eq_getElem (by omega), Option.getD_some]; simp
    rw [e, ptxL_snoc]
  have H0 : Hid (ptxL (o :: hs.take 0) = txL o ++ [10]) := by change _ = _; rw [List.take_zero]; simp [ptxL]
  have HE : Hid (hs.take nh = hs) := by change _ = _; rw [← hlen, List.take_length]
  have h8 := (okV_pos hoo).2
  have hol : o.length = la := hP.1
  have ho2 : ∀ i, i < la → ptB (ptAt o i).1 (ptAt o i).2 = true := fun i hi => okV_pt8 hoo (by rw [hol]; exact hi)
  have hsh := tx_short hoo
  clear hlen hPV h
  go_enter Tryz.func13, Tryz.ntmps13
  go_upto_region 1 with fail
  rw [← hW]
  clear hW
  go_wp2_with fail
  refine hOk.mono ?_
  rintro e w1 ⟨rfl, J⟩
  have K := bw_trans BW J
  replace TP := keep J TP
  replace hP := (hP.below J).grow J.size
  replace hS := (hS.below J).grow J.size
  replace hH : ∀ j, j < nh → L j ≤ 1048576 ∧ Pts w1.heap.size w1 (A j) (L j) (hs[j]?.getD []) := fun j hj => ⟨(hH j hj).1, ((hH j hj).2.below J).grow J.size⟩
  clear t0 t1 hOk J
  obtain ⟨t0, t1⟩ := blk_2 TP
  have hsz : (txB o).size ≤ 352 := by unfold txB ByteArray.size; simpa using hsh
  have hcat : ∀ l : List UInt8, ByteArray.mk l.toArray ++ ByteArray.mk #[10] = ⟨(l ++ [10]).toArray⟩ := fun l => by
    have e : (ByteArray.mk #[10]) = ByteArray.mk ([10] : List UInt8).toArray := rfl
    rw [e, ByteArray.mk_append_mk]
  have E0 : Hid (txB o ++ ByteArray.mk #[10] = ⟨(ptxL (o :: hs.take 0)).toArray⟩) := by change _ = _; rw [H0.out]; exact hcat _
  have HCt : Hid (∀ l : List UInt8, ByteArray.mk l.toArray ++ ByteArray.mk #[10] = ⟨(l ++ [10]).toArray⟩) := hcat
  clear hcat
  go_wp2_with fail
  refine (sText_ok a la ca o (by omega) w1 hP ho2).mono ?_
  rintro e w2 ⟨rfl, J⟩
  replace K := bw_trans K J
  replace TP := keep J TP
  replace hS := (hS.below J).grow J.size
  replace hH : ∀ j, j < nh → L j ≤ 1048576 ∧ Pts w2.heap.size w2 (A j) (L j) (hs[j]?.getD []) := fun j hj => ⟨(hH j hj).1, ((hH j hj).2.below J).grow J.size⟩
  clear t0 t1 J hP ho2
  obtain ⟨t0, t1⟩ := blk_2 TP
  go_wp2_with fail
  go_loopw [3, 4] (fun s i wr => ∃ k : Nat, k ≤ nh ∧ i = .int .i64 k ∧ s = .string ⟨(ptxL (o :: hs.take k)).toArray⟩ ∧ (ptxL (o :: hs.take k)).length ≤ 353 * (k + 1) ∧ Below w2.heap.size w2 wr) (fun _ i _ => nh - (intOf i).toNat)
  case atStart => exact ⟨0, Nat.zero_le _, rfl, by rw [E0.out], by rw [H0.out]; simp only [List.length_append, List.length_cons, List.length_nil]; omega, bw_refl _⟩
  case round =>
    obtain ⟨k, hk, rfl, rfl, hkl, hnx⟩ := hrel
    obtain ⟨t0, t1⟩ := blk_2 (keep hnx TP)
    by_cases hlt : k < nh
    case neg =>
      obtain rfl : k = nh := by omega
      have e2 : Hid (ptB' o hs = ⟨(ptxL (o :: hs.take k)).toArray⟩) := by change _ = _; rw [e1.out, HE.out]
      clear hkl
      go_wp2_with fail
      go_ret
      exact ⟨ret_str e2.out.symm, bw_trans K hnx⟩
    case pos =>
      rcases hS.below hnx with h0 | ⟨b, off, rfl, hbl, hcs⟩
      · omega
      have c0 := hcs k hlt
      clear hcs
      have i0 : (0 : Int) ≤ (k : Int) := Int.natCast_nonneg _
      have i1 : (k : Int) < (nh : Int) := by omega
      obtain ⟨hLk, hPk⟩ := hH k hlt
      have hokk := HO.out k hlt
      have hk8 := (okV_pos hokk).2
      have hkn : (hs[k]?.getD []).length = L k := hPk.1
      have hk2 : ∀ i, i < L k → ptB (ptAt (hs[k]?.getD []) i).1 (ptAt (hs[k]?.getD []) i).2 = true := fun i hi => okV_pt8 hokk (by rw [hkn]; exact hi)
      have hksh := tx_short hokk
      have hst := HS.out k hlt
      have hkz : (txB (hs[k]?.getD [])).size ≤ 352 := by unfold txB ByteArray.size; simpa using hksh
      have hCt := sText_ok (A k) (L k) (C k) (hs[k]?.getD []) (by omega) wr ((hPk.below hnx).grow hnx.size) hk2
      have E1 : Hid (ByteArray.mk (ptxL (o :: hs.take k)).toArray ++ txB (hs[k]?.getD []) ++ ByteArray.mk #[10] = ⟨(ptxL (o :: hs.take (k + 1))).toArray⟩) := by
        change _ = _
        unfold txB
        rw [show (ByteArray.mk #[10]) = ByteArray.mk ([10] : List UInt8).toArray from rfl, ByteArray.mk_append_mk, ByteArray.mk_append_mk, hst]
      have hlen1 : (ptxL (o :: hs.take (k + 1))).length ≤ 353 * (k + 1 + 1) := by rw [hst]; simp only [List.length_append, List.length_cons, List.length_nil]; omega
      have hpz : (ByteArray.mk (ptxL (o :: hs.take k)).toArray).size ≤ 1059 := by unfold ByteArray.size; simp; omega
      clear hst hk2 hPk hksh
      generalize hgT : txB (hs[k]?.getD []) = tk at *
      generalize hgP : ByteArray.mk (ptxL (o :: hs.take k)).toArray = pk at *
      go_wp2_with fail
      refine hCt.mono ?_
      rintro e w3 ⟨rfl, J⟩
      go_wp2_with fail
      go_roundw
      case rel => exact ⟨k + 1, by omega, by simp, by rw [E1.out], hlen1, bw_trans hnx J⟩
      case measure => simp [intOf]; omega
end Go.Proofs.YthjnfjnnpabenaaGreatDoor
namespace Go.Proofs.YthjnfjnnpabenaaGreatDoor
open Go.RowKit Go.Sort

set_option maxRecDepth 100000 in
set_option maxHeartbeats 1000000 in
theorem luSame_same (a c : Option Addr) (len cap cap' : Nat) (l : List P2) (w : World) (hA : Pts w.heap.size w a len l) (hC : Pts w.heap.size w c len l) (hlen : len ≤ 1048576) :
    Calls Tryz.prog 37 #[.slice a len cap, .slice c len cap'] w fun e w' => e = .returned (.bool true) ∧ Below w.heap.size w w' := by
  go_enter Tryz.func37, Tryz.ntmps37
  go_wp2_with fail
  go_loopw [5] (fun i wr => ∃ k : Nat, k ≤ len ∧ i = .int .i64 k ∧ Below w.heap.size w wr) (fun i _ => len - (intOf i).toNat)
  case atStart => exact ⟨0, Nat.zero_le _, rfl, bw_refl _⟩
  case round =>
    obtain ⟨k, hk, rfl, hnx⟩ := hrel
    by_cases hlt : k < len
    · rcases hA.2 with h0 | ⟨b, off, rfl, hbl, hc⟩
      · omega
      rcases hC.2 with h0 | ⟨b', off', rfl, hbl', hc'⟩
      · omega
      have d0 := cell_regrown ((hnx.cell (p := ⟨b, off + k * 2, none⟩) hbl).trans (hc k hlt).1)
      have d1 := cell_regrown ((hnx.cell (p := ⟨b, off + k * 2 + 1, none⟩) hbl).trans (hc k hlt).2)
      have d2 := cell_regrown ((hnx.cell (p := ⟨b', off' + k * 2, none⟩) hbl').trans (hc' k hlt).1)
      have d3 := cell_regrown ((hnx.cell (p := ⟨b', off' + k * 2 + 1, none⟩) hbl').trans (hc' k hlt).2)
      have i0 : (0 : Int) ≤ (k : Int) := Int.natCast_nonneg _
      have i1 : (k : Int) < (len : Int) := by omega
      clear hc hc'
      go_wp2_with fail
      refine wp_region_quiet_below (by kernel_rfl) (by kernel_rfl) ?_
      repeat (first | go_big_quiet_step (fail))
      refine wpQuiet_nil ?_
      intro _ hw'
      obtain ⟨⟨dq, osq⟩, hw''⟩ := hw'
      subst hw''
      have J := below_regrown wr dq osq
      generalize grow (redrawn wr dq) osq = w1 at J ⊢
      go_wp2_with fail
      go_roundw
      case rel => exact ⟨k + 1, by omega, by simp, bw_trans hnx J⟩
      case measure => simp [intOf]; omega
    · obtain rfl : k = len := by omega
      go_wp2
      go_ret
      exact ⟨rfl, hnx⟩
end Go.Proofs.YthjnfjnnpabenaaGreatDoor
namespace Go.Proofs.YthjnfjnnpabenaaGreatDoor
open Go.RowKit Go.Sort

theorem no10_tx {l : List P2} (hl : l ≠ []) (hp : ∀ p ∈ l, ptB p.1 p.2 = true) : (10 : UInt8) ∉ txL l := by
  intro hm
  have h := cut_tx hl hp
  have key : ∀ (l : List P2), (∀ p ∈ l, ptB p.1 p.2 = true) → (10 : UInt8) ∉ txL l := by
    intro l
    induction l with
    | nil => intro _ h; simp [txL, Lib.join] at h
    | cons p r ih =>
      intro hp h
      have hw : (10 : UInt8) ∉ wdL p := fun h => by
        have hq := hp p List.mem_cons_self
        rw [wdL_3 hq] at h
        obtain ⟨a, b, c, d⟩ := (ptB_iff _ _).1 hq
        have e : ∀ k : Nat, k < 10 → (10 : UInt8) ≠ UInt8.ofNat (48 + k) := by decide
        simp only [List.mem_cons, List.not_mem_nil, or_false] at h
        rcases h with h | h | h
        · exact e _ (by omega) h
        · exact absurd h (by decide)
        · exact e _ (by omega) h
      cases r with
      | nil => rw [txL_one] at h; exact hw h
      | cons q s =>
        rw [txL_cons] at h
        rcases List.mem_append.1 h with h | h
        · exact hw h
        · rcases List.mem_cons.1 h with h | h
          · exact absurd h (by decide)
          · exact ih (fun x hx => hp x (List.mem_cons_of_mem _ hx)) h
  exact key l hp hm
theorem lnP_tx : ∀ {ls : List (List P2)}, (∀ l ∈ ls, okV l = true) → lnP (ptxL ls) = some ls := by
  intro ls
  induction ls with
  | nil => intro _; exact lnP_nil
  | cons l r ih =>
    intro h
    obtain ⟨h0, h8, hp⟩ := okV_pts8 (h l List.mem_cons_self)
    have e : ptxL (l :: r) = txL l ++ 10 :: ptxL r := by unfold ptxL; simp
    rw [e, lnP_word (no10_tx h0 hp), cut_tx h0 hp, words_map hp, ih (fun x hx => h x (List.mem_cons_of_mem _ hx))]
    rfl
theorem ptxL_len : ∀ {ls : List (List P2)}, (∀ l ∈ ls, okV l = true) → (ptxL ls).length ≤ 32 * ls.length := by
  intro ls
  induction ls with
  | nil => intro _; simp [ptxL]
  | cons l r ih =>
    intro h
    obtain ⟨h0, h8, hp⟩ := okV_pts8 (h l List.mem_cons_self)
    have e : ptxL (l :: r) = txL l ++ 10 :: ptxL r := by unfold ptxL; simp
    have h1 := txL_size h0 hp
    have h2 := ih (fun x hx => h x (List.mem_cons_of_mem _ hx))
    rw [e]
    simp only [List.length_append, List.length_cons]
    omega
/-- A plate is read back from its text. -/
theorem readPl_back {o : List P2} {hs : List (List P2)} (h : plV o hs = true) : readPl (ptxL (o :: hs)) = some (o :: hs) := by
  obtain ⟨h1, h2, h3⟩ := plV_all h
  have hall : ∀ l ∈ o :: hs, okV l = true := fun l hl => by
    rcases List.mem_cons.1 hl with rfl | hl
    · exact h1
    · exact h3 l hl
  have hlen := ptxL_len hall
  simp only [List.length_cons] at hlen
  rw [readPl_of (by omega) (lnP_tx hall), if_pos h]
/-- What is read is a plate, and the text is its own. -/
theorem lnP_only : ∀ {z : List UInt8} {ls : List (List P2)}, lnP z = some ls → (∀ l ∈ ls, okV l = true) → ptxL ls = z := by
  suffices H : ∀ (n : Nat) {z : List UInt8} {ls : List (List P2)}, z.length ≤ n → lnP z = some ls → (∀ l ∈ ls, okV l = true) → ptxL ls = z from fun {z ls} h h' => H z.length (Nat.le_refl _) h h'
  intro n
  induction n with
  | zero =>
    intro z ls hz h _
    obtain rfl := List.eq_nil_of_length_eq_zero (Nat.le_zero.1 hz)
    rw [lnP_nil] at h
    cases h; rfl
  | succ n ih =>
    intro z ls hz h hk
    by_cases hm : (10 : UInt8) ∈ z
    · obtain ⟨x, r, rfl, hx⟩ := cut_first 10 z hm
      rw [lnP_word hx] at h
      cases hw : wordsP (cutL 32 x) with
      | none => rw [hw] at h; cases h
      | some l =>
        rw [hw] at h
        simp only [Option.map_eq_some_iff] at h
        obtain ⟨q, hq, rfl⟩ := h
        have e1 : ptxL q = r := ih (by simp only [List.length_append, List.length_cons] at hz; omega) hq (fun y hy => hk y (List.mem_cons_of_mem _ hy))
        have e2 : x = txL l := cut_join l x (words_only hw).1
        have e : ptxL (l :: q) = txL l ++ 10 :: ptxL q := by unfold ptxL; simp
        rw [e, e1, ← e2]
    · by_cases e : z = []
      · subst e; rw [lnP_nil] at h; cases h; rfl
      · rw [lnP_free hm e] at h; cases h
theorem readPl_only {z : List UInt8} {ls : List (List P2)} (h : readPl z = some ls) : ∃ o hs, ls = o :: hs ∧ plV o hs = true ∧ ptxL (o :: hs) = z := by
  unfold readPl at h
  split at h
  · split at h
    · rename_i o hs he
      split at h
      · rename_i hv
        cases h
        obtain ⟨h1, h2, h3⟩ := plV_all hv
        exact ⟨o, hs, rfl, hv, lnP_only he (fun l hl => by
          rcases List.mem_cons.1 hl with rfl | hl
          · exact h1
          · exact h3 l hl)⟩
      · cases h
    · cases h
  · cases h
set_option maxRecDepth 100000 in
set_option maxHeartbeats 2000000 in
theorem luPlates_same (a ah c cH : Option Addr) (la ca nh ch ca' ch' : Nat) (o : List P2) (hs : List (List P2)) (w : World) (h : Plt w a la ah nh o hs) (h' : Plt w c la cH nh o hs) (hn : nh ≤ 1048576) :
    Calls Tryz.prog 15 #[.agg #[.slice a la ca, .slice ah nh ch], .agg #[.slice c la ca', .slice cH nh ch']] w fun e w' => e = .returned (.bool true) ∧ Below w.heap.size w w' := by
  obtain ⟨W, hW, BW, T0, T1⟩ := boxes2 w (.cells #[.slice a la ca, .slice ah nh ch] 25) (.cells #[.slice c la ca', .slice cH nh ch'] 25)
  obtain ⟨hla, hP, hlen, A, L, C, hS, hH⟩ := h.below BW
  obtain ⟨_, hP', _, A', L', C', hS', hH'⟩ := h'.below BW
  obtain ⟨t0, t1⟩ := blk_2 T0
  obtain ⟨u0, u1⟩ := blk_2 T1
  have z0 := blk_lt T0
  have z1 := blk_lt T1
  go_enter Tryz.func15, Tryz.ntmps15
  go_upto_region 1 with fail
  rw [← hW]
  clear hW
  go_wp2_with (go_at_call 37; refine (luSame_same a c la ca ca' o W hP hP' hla).mono ?_; rintro e w1 ⟨rfl, J⟩; obtain ⟨t0', t1'⟩ := blk_2 (keep J T0); obtain ⟨u0', u1'⟩ := blk_2 (keep J T1); have z0' := blk_lt (keep J T0); have z1' := blk_lt (keep J T1))
  have K1 := bw_trans BW J
  have T01 := keep J T0
  have T11 := keep J T1
  clear t0' t1' u0' u1' t0 t1 u0 u1
  go_loopw [5] (fun i wr => ∃ k : Nat, k ≤ nh ∧ i = .int .i64 k ∧ Below w1.heap.size w1 wr) (fun i _ => nh - (intOf i).toNat)
  case atStart => exact ⟨0, Nat.zero_le _, rfl, bw_refl _⟩
  case round =>
    obtain ⟨k, hk, rfl, hnx⟩ := hrel
    obtain ⟨t0, t1⟩ := blk_2 (keep hnx T01)
    obtain ⟨u0, u1⟩ := blk_2 (keep hnx T11)
    have hnW := bw_trans J hnx
    by_cases hlt : k < nh
    · rcases hS with h0 | ⟨b, off, rfl, hbl, hc⟩
      · omega
      rcases hS' with h0 | ⟨b', off', rfl, hbl', hc'⟩
      · omega
      have d0 := cell_regrown ((hnW.cell (p := ⟨b, off + k, none⟩) hbl).trans (hc k hlt))
      have d1 := cell_regrown ((hnW.cell (p := ⟨b', off' + k, none⟩) hbl').trans (hc' k hlt))
      have i0 : (0 : Int) ≤ (k : Int) := Int.natCast_nonneg _
      have i1 : (k : Int) < (nh : Int) := by omega
      obtain ⟨hL1, hP1⟩ := hH k hlt
      obtain ⟨hL2, hP2⟩ := hH' k hlt
      have hPw1 := (hP1.below hnW).grow hnW.size
      have hPw2 := (hP2.below hnW).grow hnW.size
      have eL : L' k = L k := by have := hP1.1; have := hP2.1; omega
      have HX : Hid (∀ d os, Calls Tryz.prog 37 #[.slice (A k) (L k) (C k), .slice (A' k) (L' k) (C' k)] (grow (redrawn wr d) os) fun e W' => e = .returned (.bool true) ∧ Below (grow (redrawn wr d) os).heap.size (grow (redrawn wr d) os) W') := fun d os => by
        rw [eL] at hPw2 ⊢
        exact luSame_same (A k) (A' k) (L k) (C k) (C' k) (hs[k]?.getD []) _ ((hPw1.below (below_regrown wr d os)).grow (below_regrown wr d os).size) ((hPw2.below (below_regrown wr d os)).grow (below_regrown wr d os).size) hL1
      clear hc hc' hP1 hP2 hPw1 hPw2 eL
      go_wp2_with fail
      clear t0 t1 u0 u1
      obtain ⟨t0, t1⟩ := reg_2 (keep hnx T01)
      obtain ⟨u0, u1⟩ := reg_2 (keep hnx T11)
      refine wp_region_quiet_below (by kernel_rfl) (by kernel_rfl) ?_
      repeat (first | go_big_quiet_step (first | (go_at_call 37; with_reducible exact Calls.regrown_of (HX.out _ _))))
      refine wpQuiet_nil ?_
      intro _ hw'
      obtain ⟨⟨dq, osq⟩, hw''⟩ := hw'
      subst hw''
      have J9 := below_regrown wr dq osq
      generalize grow (redrawn wr dq) osq = w9 at J9 ⊢
      go_wp2_with fail
      go_roundw
      case rel => exact ⟨k + 1, by omega, by simp, bw_trans hnx J9⟩
      case measure => simp [intOf]; omega
    · obtain rfl : k = nh := by omega
      go_wp2_with fail
      go_ret
      exact ⟨rfl, bw_trans K1 hnx⟩
theorem luPl_ans (b b' : Nat) (v : Value) (r : Option (List (List P2))) (w : World) (h : PlAns b w v r) (v' : Value) (h' : PlAns b' w v' r) (hn : (holP r).length ≤ 2) :
    Calls Tryz.prog 15 #[v, v'] w fun e w' => e = .returned (.bool true) ∧ Below w.heap.size w w' := by
  obtain ⟨a, c, ah, ch, rfl, hp⟩ := h.plt
  obtain ⟨a', c', ah', ch', rfl, hp'⟩ := h'.plt
  exact luPlates_same a ah a' ah' _ c _ ch c' ch' _ _ w hp hp' (by omega)
end Go.Proofs.YthjnfjnnpabenaaGreatDoor
namespace Go.Proofs.YthjnfjnnpabenaaGreatDoor
open Go.RowKit

theorem lies_set0 {b : Nat} {x y z : Value} {t : TypeId} {W : World} (h : Lies b #[x, y] t W) : Lies b #[z, y] t (W.setCell ⟨b, 0, none⟩ z) := by
  unfold Lies at h ⊢
  exact setCell_row h z
theorem blk_ne_own {W : World} {base g c n gh ch m : Nat} {l : List P2} {xs : List Value} (h : PtBlk W g c l n) (ho : W.ownsRow base 22 1 (.slice (some ⟨gh, 0, none⟩) m ch) m xs) : g ≠ gh := by
  rintro rfl
  obtain ⟨cur, hc, _⟩ := h
  rcases ho.2 with ⟨e, _⟩ | ⟨g', c', cur', e, hb, hg, _⟩
  · cases e
  · cases e; rw [hc] at hg; simp at hg
theorem LoopT.ok.lt {base : Nat} {W : World} {t : LoopT} (h : t.ok base W) : t.g < W.heap.size := by obtain ⟨_, _, _, _, _, _, h7⟩ := h; exact h7.lt
/-- What a drawn plate is. -/
def DrawnP (base r : Nat) (a : Option Addr) (len cap k : Nat) (w : World) (e : Ending) (w' : World) : Prop :=
  ∃ (o : LoopT) (hv : Value) (hs : List LoopT) (k' : Nat), e = .returned (.agg #[o.v, hv]) ∧ PlD base w' o hv hs ∧ (hs.length ≤ 3 ∧ Seat hv) ∧ k' ≤ k ∧ Rd w' r k' a len cap ∧ Only r w w'
set_option maxRecDepth 100000 in
set_option maxHeartbeats 8000000 in
theorem plate_any (k : Nat) (a : Option Addr) (len cap r : Nat) (w : World) (hk : k ≤ 600000) (R : Rd w r k a len cap) :
    Calls Tryz.prog 28 #[.pointer (some ⟨r, 0, none⟩)] w (DrawnP w.heap.size r a len cap (k + 200) w) := by
  obtain ⟨i0, hi0, hz0, hz1, hz2⟩ := info_parts Tryz.infoPts
  obtain ⟨j0, hj0, jz0, jz1, jz2⟩ := info_parts Tryz.infoPt
  have hlt := R.lt
  have P := (Only.refl r w).alloc (.cells #[.slice none 0 0, .slice none 0 0] 25)
  have Z : Lies w.heap.size #[.slice none 0 0, .slice none 0 0] 25 (w.alloc (.cells #[.slice none 0 0, .slice none 0 0] 25)) := Lies.new w _ _
  replace R := R.alloc (.cells #[.slice none 0 0, .slice none 0 0] 25)
  go_enter Tryz.func28, Tryz.ntmps28
  go_wp2_with fail
  refine (good_any k a len cap r _ (by omega) R).mono ?_
  clear R
  rintro e w1 ⟨⟨g, n, c, l⟩, hv, hs, k1, he, hD, ⟨hs2, hn7, hst⟩, hk1, R, O⟩
  obtain rfl : e = .returned (.agg #[.slice (some ⟨g, 0, none⟩) n c, hv]) := he
  obtain ⟨gh, ch, rfl⟩ : ∃ gh ch, hv = .slice (some ⟨gh, 0, none⟩) hs.length ch := own_seat hD.2.2.1 hst
  replace hD := hD.mono (base' := w.heap.size + 1) (by simp)
  replace P := P.trans O
  replace Z : Lies w.heap.size #[.slice none 0 0, .slice none 0 0] 25 w1 := keepO O Z (by omega)
  clear O
  have z1 := Z.lt
  have Bq : Below w1.heap.size w1 (w1.alloc (.cells #[.slice (some ⟨g, 0, none⟩) n c, .slice (some ⟨gh, 0, none⟩) hs.length ch] 25)) := (by repeat (first | exact bw_refl _ | assumption | apply bw_drewN | apply bw_drew | apply bw_alloc | refine bw_set ?_ (by simp) _))
  have Lp : Lies w1.heap.size #[.slice (some ⟨g, 0, none⟩) n c, .slice (some ⟨gh, 0, none⟩) hs.length ch] 25 (w1.alloc (.cells #[.slice (some ⟨g, 0, none⟩) n c, .slice (some ⟨gh, 0, none⟩) hs.length ch] 25)) := Lies.new w1 _ _
  have hgs : ∀ t ∈ hs, t.g < w1.heap.size := fun t ht => by obtain ⟨_, _, _, _, _, _, h7⟩ := hD.2.2.2 t ht; exact h7.lt
  have hgw : g < w1.heap.size := by obtain ⟨_, _, _, _, _, _, h7⟩ := hD.1; exact h7.lt
  have hghw : gh < w1.heap.size := (hD.2.2.1.lt gh rfl).2
  have hghb : w.heap.size + 1 ≤ gh := (hD.2.2.1.lt gh rfl).1
  replace R := R.below Bq
  replace P := P.trans (Only.of_below Bq)
  replace Z := Z.below Bq
  replace hD := hD.below Bq
  clear Bq
  go_wp2_with fail
  refine (pick_rd 24 k1 a len cap r _ (by omega) (by omega) R).mono ?_
  clear R
  rintro e w2 ⟨q, rfl, qa, qb, R, O⟩
  replace P := P.trans O
  replace Z : Lies w.heap.size #[.slice none 0 0, .slice none 0 0] 25 w2 := keepO O Z (by omega)
  replace Lp : Lies w1.heap.size #[.slice (some ⟨g, 0, none⟩) n c, .slice (some ⟨gh, 0, none⟩) hs.length ch] 25 w2 := keepO O Lp (by omega)
  replace hD := hD.only O (by omega)
  clear O
  obtain ⟨d0, d1, f0, f1⟩ := lies2 Lp
  obtain ⟨y0, y1, yf0, yf1⟩ := lies2 Z
  have z2 := Lp.lt
  have hmx : Tryz.prog.follows .mixedOrders = true := by kernel_rfl
  have hmax : hs.length + 1 ≤ maxLen := by simp [maxLen]; omega
  have hq : q = 0 ∨ q = 1 ∨ q = 2 ∨ (q ≠ 0 ∧ q ≠ 1 ∧ q ≠ 2) := by omega
  rcases hq with rfl | rfl | rfl | ⟨q0, q1, q2⟩
  · go_wp2_with fail
    refine (loop_any (k1 + 1) a len cap r _ (by omega) R).mono ?_
    clear R
    rintro e w3 ⟨g3, n3, c3, l3, k3, rfl, h3, h7, hl3, hc3, hm3, hb3, hB3, hk3, R, O⟩
    replace P := P.trans O
    replace Z : Lies w.heap.size #[.slice none 0 0, .slice none 0 0] 25 w3 := keepO O Z (by omega)
    replace Lp : Lies w1.heap.size #[.slice (some ⟨g, 0, none⟩) n c, .slice (some ⟨gh, 0, none⟩) hs.length ch] 25 w3 := keepO O Lp (by omega)
    replace hD := hD.only O (by omega)
    clear O d0 d1 f0 f1 y0 y1 yf0 yf1
    obtain ⟨d0, d1, f0, f1⟩ := lies2 Lp
    obtain ⟨y0, y1, yf0, yf1⟩ := lies2 Z
    have O4 : Only w1.heap.size w3 (w3.setCell ⟨w1.heap.size, 0, none⟩ (.slice (some ⟨g3, 0, none⟩) n3 c3)) := (Only.refl w1.heap.size w3).set (.inl rfl) _
    have hD4 : PlD (w.heap.size + 1) (w3.setCell ⟨w1.heap.size, 0, none⟩ (.slice (some ⟨g3, 0, none⟩) n3 c3)) ⟨g3, n3, c3, l3⟩ (.slice (some ⟨gh, 0, none⟩) hs.length ch) hs :=
      ⟨LoopT.ok.only' ⟨h3, by show n3 ≤ 8; omega, hl3, hc3, hm3, by show w.heap.size + 1 ≤ g3; omega, hB3⟩ O4 (by show g3 ≠ _; omega), hD.2.1, own_only' hD.2.2.1 O4 (fun e => by have e' : gh = w1.heap.size := Option.some.inj e; omega), fun t ht => (hD.2.2.2 t ht).only' O4 (Nat.ne_of_lt (hgs t ht))⟩
    have R4 := R.set (p := ⟨w1.heap.size, 0, none⟩) (by show r < w1.heap.size; omega) (.slice (some ⟨g3, 0, none⟩) n3 c3)
    have P4 := P.set (p := ⟨w1.heap.size, 0, none⟩) (.inr (by show w.heap.size ≤ w1.heap.size; omega)) (.slice (some ⟨g3, 0, none⟩) n3 c3)
    have Z4 : Lies w.heap.size #[.slice none 0 0, .slice none 0 0] 25 (w3.setCell ⟨w1.heap.size, 0, none⟩ (.slice (some ⟨g3, 0, none⟩) n3 c3)) := set_oth Z (by omega)
    have Z5 := setB2 (u0 := .slice (some ⟨g3, 0, none⟩) n3 c3) (u1 := .slice (some ⟨gh, 0, none⟩) hs.length ch) Z4
    obtain ⟨v0, v1, _, _⟩ := lies2 Z5
    go_wp2_with fail
    refine bodyPost_ret (v := .agg #[.slice (some ⟨g3, 0, none⟩) n3 c3, .slice (some ⟨gh, 0, none⟩) hs.length ch]) (by simp [results, Tryz.results28, go_sem, v0, v1]) rfl ?_
    generalize (w3.setCell ⟨w1.heap.size, 0, none⟩ (.slice (some ⟨g3, 0, none⟩) n3 c3)) = x4 at *
    have hD5 := (hD4.only ((Only.refl w.heap.size x4).set (p := ⟨w.heap.size, 0, none⟩) (.inl rfl) (.slice (some ⟨g3, 0, none⟩) n3 c3)) (by omega)).only ((Only.refl w.heap.size _).set (p := ⟨w.heap.size, 1, none⟩) (.inl rfl) (.slice (some ⟨gh, 0, none⟩) hs.length ch)) (by omega)
    exact ⟨⟨g3, n3, c3, l3⟩, _, hs, k3, rfl, hD5.mono (by omega), ⟨by omega, ⟨_, _, _, rfl⟩⟩, by omega, (R4.set (by show r < w.heap.size; omega) _).set (by show r < w.heap.size; omega) _, (P4.set (.inr (by show w.heap.size ≤ w.heap.size; omega)) _).set (.inr (by show w.heap.size ≤ w.heap.size; omega)) _⟩
  · have hX := loop_any (k1 + 1) a len cap r w2.drew (by omega) R.drew
    have PD := P.drew
    have ZD : Lies w.heap.size #[.slice none 0 0, .slice none 0 0] 25 w2.drew := Z
    have LpD : Lies w1.heap.size #[.slice (some ⟨g, 0, none⟩) n c, .slice (some ⟨gh, 0, none⟩) hs.length ch] 25 w2.drew := Lp
    have hDD : PlD (w.heap.size + 1) w2.drew ⟨g, n, c, l⟩ (.slice (some ⟨gh, 0, none⟩) hs.length ch) hs := hD.below (bw_drew (bw_refl _))
    go_wp2_with fail
    refine wp_region_held (S := fun _ => True) hmx ?_
    refine wpAnyH_take (i := 0) (v := .pointer (some ⟨w1.heap.size, 1, none⟩)) rfl (by kernel_rfl) (by kernel_rfl) (by kernel_rfl) (fun _ _ _ h => h) (Or.inl ⟨by rfl, by intro w' _; go_simp⟩) trivial ?_
    refine wpAnyH_take (i := 2) (v := .pointer (some ⟨r, 0, none⟩)) rfl (by kernel_rfl) (by kernel_rfl) (by kernel_rfl) (fun _ _ _ h => h) (Or.inl ⟨by rfl, by intro w' _; go_simp⟩) trivial ?_
    refine wpAnyH_all (rs := [1, 3]) (by kernel_rfl) (by simp) ?_
    intro i hi
    have hi' : i = 1 ∨ i = 3 := by simpa using hi
    clear hi
    rcases hi' with rfl | rfl
    · skip
      refine YieldsIf.wpOp (S := fun w' => w' = w2.drew) (v := .slice (some ⟨gh, 0, none⟩) hs.length ch) rfl (Or.inl ⟨by rfl, by rintro w' rfl; go_simp⟩) rfl ⟨trivial, ?_⟩
      refine wpAnyH_all (rs := [3]) (by kernel_rfl) (by simp) ?_
      intro i hi
      obtain rfl : i = 3 := by simpa using hi
      refine wpOp_now rfl (by rfl) ?_
      go_simp
      refine hX.mono ?_
      rintro e w3 ⟨g3, n3, c3, l3, k3, rfl, h3, h7, hl3, hc3, hm3, hb3, hB3, hk3, R3, O3⟩
      have P3 := PD.trans O3
      have Z3 : Lies w.heap.size #[.slice none 0 0, .slice none 0 0] 25 w3 := keepO O3 ZD (by omega)
      have Lp3 : Lies w1.heap.size #[.slice (some ⟨g, 0, none⟩) n c, .slice (some ⟨gh, 0, none⟩) hs.length ch] 25 w3 := keepO O3 LpD (by omega)
      have hD3 := hDD.only O3 (by omega)
      obtain ⟨d03, d13, f03, f13⟩ := lies2 Lp3
      have zz3 := Lp3.lt
      have zr3 := R3.lt
      have zg3 := hB3.lt
      have hb3' : w2.heap.size ≤ g3 := hb3
      refine wpAnyH_all (rs := [4]) (by kernel_rfl) (by simp) ?_
      intro i hi
      obtain rfl : i = 4 := by simpa using hi
      refine wpOp_now rfl (by rfl) ?_
      go_simp
      refine wpAnyH_all (rs := [5]) (by kernel_rfl) (by simp) ?_
      intro i hi
      obtain rfl : i = 5 := by simpa using hi
      refine wpOp_now rfl (by rfl) ?_
      refine wp_append_lies _ _ _ _ (by rfl) (w.heap.size + 1) 22 i0 _ 1 24 Tryz.underlying23 hi0 hz0 hz1 hz2 rfl (by omega) _ hs.length _ (by rfl) (hD3.2.2.1.alloc _) ⟨w3.heap.size, 0, none⟩ 1 1 [.slice (some ⟨g3, 0, none⟩) n3 c3] (by rfl) (by rfl) (World.news_of_block (cs := #[.slice (some ⟨g3, 0, none⟩) n3 c3]) (t := 22) (fr := (0, 0)) (heap_alloc_new w3 _)) (by simp [Value.oneCell']) (by omega) hmax (by omega) (by simp; omega) (w3.heap.size + 1) (by simp) ?_
      intro gg cg w5 hown5 hgr5 hat5 hlt5
      refine ⟨trivial, ?_⟩
      simp only [Act.put, List.setIfInBounds_toArray]
      refine wpAnyH_take (i := 6) (v := .pointer (some ⟨w1.heap.size, 1, none⟩)) rfl (by kernel_rfl) (by kernel_rfl) (by kernel_rfl) (fun _ _ _ h => h) (Or.inl ⟨by rfl, by intro w' _; go_simp⟩) trivial ?_
      refine wpAnyH_all (rs := [7]) (by kernel_rfl) (by simp) ?_
      intro i hi
      obtain rfl : i = 7 := by simpa using hi
      have Bq : Below w3.heap.size w3 (w3.alloc (.cells #[.slice (some ⟨g3, 0, none⟩) n3 c3] 22)) := (by repeat (first | exact bw_refl _ | assumption | apply bw_drewN | apply bw_drew | apply bw_alloc | refine bw_set ?_ (by simp) _))
      have Lp5 := lies_grown (Lp3.alloc _) hgr5 (fun e => by have e' : w1.heap.size = gh := Option.some.inj e; omega)
      have Z5' := lies_grown (Z3.alloc _) hgr5 (fun e => by have e' : w.heap.size = gh := Option.some.inj e; omega)
      obtain ⟨d05, d15, f05, f15⟩ := lies2 Lp5
      refine wpOp_now rfl (by rfl) ?_
      go_simp
      refine wpAnyH_done (by kernel_rfl) ?_ _
      simp only [Exit.then, Exit.inBlock]
      have hne3 : ∀ t : LoopT, t.ok (w.heap.size + 1) w3 → some t.g ≠ Value.ownBlock (.slice (some ⟨gh, 0, none⟩) hs.length ch) := fun t ht e => by obtain ⟨_, _, _, _, _, _, h7⟩ := ht; exact blk_ne_own h7 hD3.2.2.1 (Option.some.inj e)
      have hggn : gg ≠ w1.heap.size := hat5.elim (fun e => by have e' : gh = gg := Option.some.inj e; omega) (fun e => by omega)
      have O5 : Only w1.heap.size w5 (w5.setCell ⟨w1.heap.size, 1, none⟩ (.slice (some ⟨gg, 0, none⟩) (hs.length + 1) cg)) := (Only.refl w1.heap.size w5).set (.inl rfl) _
      have keep5 : ∀ t : LoopT, t.ok (w.heap.size + 1) w3 → t.g ≠ w1.heap.size → t.ok (w.heap.size + 1) (w5.setCell ⟨w1.heap.size, 1, none⟩ (.slice (some ⟨gg, 0, none⟩) (hs.length + 1) cg)) := fun t ht hne => ((ht.below Bq).grown hgr5 (hne3 t ht)).only' O5 hne
      have hr5 := own_only' hown5 O5 (fun e => hggn (Option.some.inj e))
      have hD4 : PlD (w.heap.size + 1) (w5.setCell ⟨w1.heap.size, 1, none⟩ (.slice (some ⟨gg, 0, none⟩) (hs.length + 1) cg)) ⟨g, n, c, l⟩ (.slice (some ⟨gg, 0, none⟩) (hs.length + 1) cg) (hs ++ [(⟨g3, n3, c3, l3⟩ : LoopT)]) := by
        refine ⟨keep5 _ hD3.1 (by show g ≠ _; omega), by simp; omega, by simpa [LoopT.v] using hr5, fun t ht => ?_⟩
        rcases List.mem_append.1 ht with h | h
        · exact keep5 t (hD3.2.2.2 t h) (Nat.ne_of_lt (hgs t h))
        · obtain rfl : t = ⟨g3, n3, c3, l3⟩ := by simpa using h
          exact keep5 _ ⟨h3, by show n3 ≤ 8; omega, hl3, hc3, hm3, by show w.heap.size + 1 ≤ g3; omega, hB3⟩ (by show g3 ≠ _; omega)
      have R4 := ((R3.below Bq).grown hgr5 (fun j e => by have e' : gh = j := Option.some.inj e; omega)).set (p := ⟨w1.heap.size, 1, none⟩) (by show r < w1.heap.size; omega) (.slice (some ⟨gg, 0, none⟩) (hs.length + 1) cg)
      have P4 := ((P3.trans (Only.of_below Bq)).grown hgr5 (fun j e => by have e' : gh = j := Option.some.inj e; omega)).set (p := ⟨w1.heap.size, 1, none⟩) (.inr (by show w.heap.size ≤ w1.heap.size; omega)) (.slice (some ⟨gg, 0, none⟩) (hs.length + 1) cg)
      have L4 := lies_set1 (z := .slice (some ⟨gg, 0, none⟩) (hs.length + 1) cg) Lp5
      have Z4 : Lies w.heap.size #[.slice none 0 0, .slice none 0 0] 25 (w5.setCell ⟨w1.heap.size, 1, none⟩ (.slice (some ⟨gg, 0, none⟩) (hs.length + 1) cg)) := set_oth Z5' (by omega)
      clear hown5 hgr5 hat5 hlt5 keep5 hr5 O5 hne3 hD3 Lp3 Z3 R3 P3 Lp5 Z5' d03 d13 f03 f13 d05 d15 f05 f15 Bq hB3 O3 hX PD ZD LpD hDD
      generalize w5.setCell ⟨w1.heap.size, 1, none⟩ (.slice (some ⟨gg, 0, none⟩) (hs.length + 1) cg) = x4 at *
      clear y0 y1 yf0 yf1 d0 d1 f0 f1
      obtain ⟨d0, d1, f0, f1⟩ := lies2 L4
      obtain ⟨y0, y1, yf0, yf1⟩ := lies2 Z4
      have Z5 := setB2 (u0 := .slice (some ⟨g, 0, none⟩) n c) (u1 := .slice (some ⟨gg, 0, none⟩) (hs.length + 1) cg) Z4
      obtain ⟨v0, v1, _, _⟩ := lies2 Z5
      go_wp2_with fail
      refine bodyPost_ret (v := .agg #[.slice (some ⟨g, 0, none⟩) n c, .slice (some ⟨gg, 0, none⟩) (hs.length + 1) cg]) (by simp [results, Tryz.results28, go_sem, v0, v1]) rfl ?_
      have hD5 := (hD4.only ((Only.refl w.heap.size x4).set (p := ⟨w.heap.size, 0, none⟩) (.inl rfl) (.slice (some ⟨g, 0, none⟩) n c)) (by omega)).only ((Only.refl w.heap.size _).set (p := ⟨w.heap.size, 1, none⟩) (.inl rfl) (.slice (some ⟨gg, 0, none⟩) (hs.length + 1) cg)) (by omega)
      exact ⟨⟨g, n, c, l⟩, _, hs ++ [(⟨g3, n3, c3, l3⟩ : LoopT)], k3, rfl, hD5.mono (by omega), ⟨by simp; try omega, ⟨_, _, _, rfl⟩⟩, by omega, (R4.set (by show r < w.heap.size; omega) _).set (by show r < w.heap.size; omega) _, (P4.set (.inr (by show w.heap.size ≤ w.heap.size; omega)) _).set (.inr (by show w.heap.size ≤ w.heap.size; omega)) _⟩
    · skip
      refine wpOp_now rfl (by rfl) ?_
      go_simp
      refine hX.mono ?_
      rintro e w3 ⟨g3, n3, c3, l3, k3, rfl, h3, h7, hl3, hc3, hm3, hb3, hB3, hk3, R3, O3⟩
      have P3 := PD.trans O3
      have Z3 : Lies w.heap.size #[.slice none 0 0, .slice none 0 0] 25 w3 := keepO O3 ZD (by omega)
      have Lp3 : Lies w1.heap.size #[.slice (some ⟨g, 0, none⟩) n c, .slice (some ⟨gh, 0, none⟩) hs.length ch] 25 w3 := keepO O3 LpD (by omega)
      have hD3 := hDD.only O3 (by omega)
      obtain ⟨d03, d13, f03, f13⟩ := lies2 Lp3
      have zz3 := Lp3.lt
      have zr3 := R3.lt
      have zg3 := hB3.lt
      have hb3' : w2.heap.size ≤ g3 := hb3
      refine wpAnyH_all (rs := [1, 4]) (by kernel_rfl) (by simp) ?_
      intro i hi
      have hi' : i = 1 ∨ i = 4 := by simpa using hi
      clear hi
      rcases hi' with rfl | rfl
      · skip
        refine YieldsIf.wpOp (S := fun w' => w' = w3) (v := .slice (some ⟨gh, 0, none⟩) hs.length ch) rfl (Or.inl ⟨by rfl, by rintro w' rfl; go_simp⟩) rfl ⟨trivial, ?_⟩
        refine wpAnyH_all (rs := [4]) (by kernel_rfl) (by simp) ?_
        intro i hi
        obtain rfl : i = 4 := by simpa using hi
        refine wpOp_now rfl (by rfl) ?_
        go_simp
        refine wpAnyH_all (rs := [5]) (by kernel_rfl) (by simp) ?_
        intro i hi
        obtain rfl : i = 5 := by simpa using hi
        refine wpOp_now rfl (by rfl) ?_
        refine wp_append_lies _ _ _ _ (by rfl) (w.heap.size + 1) 22 i0 _ 1 24 Tryz.underlying23 hi0 hz0 hz1 hz2 rfl (by omega) _ hs.length _ (by rfl) (hD3.2.2.1.alloc _) ⟨w3.heap.size, 0, none⟩ 1 1 [.slice (some ⟨g3, 0, none⟩) n3 c3] (by rfl) (by rfl) (World.news_of_block (cs := #[.slice (some ⟨g3, 0, none⟩) n3 c3]) (t := 22) (fr := (0, 0)) (heap_alloc_new w3 _)) (by simp [Value.oneCell']) (by omega) hmax (by omega) (by simp; omega) (w3.heap.size + 1) (by simp) ?_
        intro gg cg w5 hown5 hgr5 hat5 hlt5
        refine ⟨trivial, ?_⟩
        simp only [Act.put, List.setIfInBounds_toArray]
        refine wpAnyH_take (i := 6) (v := .pointer (some ⟨w1.heap.size, 1, none⟩)) rfl (by kernel_rfl) (by kernel_rfl) (by kernel_rfl) (fun _ _ _ h => h) (Or.inl ⟨by rfl, by intro w' _; go_simp⟩) trivial ?_
        refine wpAnyH_all (rs := [7]) (by kernel_rfl) (by simp) ?_
        intro i hi
        obtain rfl : i = 7 := by simpa using hi
        have Bq : Below w3.heap.size w3 (w3.alloc (.cells #[.slice (some ⟨g3, 0, none⟩) n3 c3] 22)) := (by repeat (first | exact bw_refl _ | assumption | apply bw_drewN | apply bw_drew | apply bw_alloc | refine bw_set ?_ (by simp) _))
        have Lp5 := lies_grown (Lp3.alloc _) hgr5 (fun e => by have e' : w1.heap.size = gh := Option.some.inj e; omega)
        have Z5' := lies_grown (Z3.alloc _) hgr5 (fun e => by have e' : w.heap.size = gh := Option.some.inj e; omega)
        obtain ⟨d05, d15, f05, f15⟩ := lies2 Lp5
        refine wpOp_now rfl (by rfl) ?_
        go_simp
        refine wpAnyH_done (by kernel_rfl) ?_ _
        simp only [Exit.then, Exit.inBlock]
        have hne3 : ∀ t : LoopT, t.ok (w.heap.size + 1) w3 → some t.g ≠ Value.ownBlock (.slice (some ⟨gh, 0, none⟩) hs.length ch) := fun t ht e => by obtain ⟨_, _, _, _, _, _, h7⟩ := ht; exact blk_ne_own h7 hD3.2.2.1 (Option.some.inj e)
        have hggn : gg ≠ w1.heap.size := hat5.elim (fun e => by have e' : gh = gg := Option.some.inj e; omega) (fun e => by omega)
        have O5 : Only w1.heap.size w5 (w5.setCell ⟨w1.heap.size, 1, none⟩ (.slice (some ⟨gg, 0, none⟩) (hs.length + 1) cg)) := (Only.refl w1.heap.size w5).set (.inl rfl) _
        have keep5 : ∀ t : LoopT, t.ok (w.heap.size + 1) w3 → t.g ≠ w1.heap.size → t.ok (w.heap.size + 1) (w5.setCell ⟨w1.heap.size, 1, none⟩ (.slice (some ⟨gg, 0, none⟩) (hs.length + 1) cg)) := fun t ht hne => ((ht.below Bq).grown hgr5 (hne3 t ht)).only' O5 hne
        have hr5 := own_only' hown5 O5 (fun e => hggn (Option.some.inj e))
        have hD4 : PlD (w.heap.size + 1) (w5.setCell ⟨w1.heap.size, 1, none⟩ (.slice (some ⟨gg, 0, none⟩) (hs.length + 1) cg)) ⟨g, n, c, l⟩ (.slice (some ⟨gg, 0, none⟩) (hs.length + 1) cg) (hs ++ [(⟨g3, n3, c3, l3⟩ : LoopT)]) := by
          refine ⟨keep5 _ hD3.1 (by show g ≠ _; omega), by simp; omega, by simpa [LoopT.v] using hr5, fun t ht => ?_⟩
          rcases List.mem_append.1 ht with h | h
          · exact keep5 t (hD3.2.2.2 t h) (Nat.ne_of_lt (hgs t h))
          · obtain rfl : t = ⟨g3, n3, c3, l3⟩ := by simpa using h
            exact keep5 _ ⟨h3, by show n3 ≤ 8; omega, hl3, hc3, hm3, by show w.heap.size + 1 ≤ g3; omega, hB3⟩ (by show g3 ≠ _; omega)
        have R4 := ((R3.below Bq).grown hgr5 (fun j e => by have e' : gh = j := Option.some.inj e; omega)).set (p := ⟨w1.heap.size, 1, none⟩) (by show r < w1.heap.size; omega) (.slice (some ⟨gg, 0, none⟩) (hs.length + 1) cg)
        have P4 := ((P3.trans (Only.of_below Bq)).grown hgr5 (fun j e => by have e' : gh = j := Option.some.inj e; omega)).set (p := ⟨w1.heap.size, 1, none⟩) (.inr (by show w.heap.size ≤ w1.heap.size; omega)) (.slice (some ⟨gg, 0, none⟩) (hs.length + 1) cg)
        have L4 := lies_set1 (z := .slice (some ⟨gg, 0, none⟩) (hs.length + 1) cg) Lp5
        have Z4 : Lies w.heap.size #[.slice none 0 0, .slice none 0 0] 25 (w5.setCell ⟨w1.heap.size, 1, none⟩ (.slice (some ⟨gg, 0, none⟩) (hs.length + 1) cg)) := set_oth Z5' (by omega)
        clear hown5 hgr5 hat5 hlt5 keep5 hr5 O5 hne3 hD3 Lp3 Z3 R3 P3 Lp5 Z5' d03 d13 f03 f13 d05 d15 f05 f15 Bq hB3 O3 hX PD ZD LpD hDD
        generalize w5.setCell ⟨w1.heap.size, 1, none⟩ (.slice (some ⟨gg, 0, none⟩) (hs.length + 1) cg) = x4 at *
        clear y0 y1 yf0 yf1 d0 d1 f0 f1
        obtain ⟨d0, d1, f0, f1⟩ := lies2 L4
        obtain ⟨y0, y1, yf0, yf1⟩ := lies2 Z4
        have Z5 := setB2 (u0 := .slice (some ⟨g, 0, none⟩) n c) (u1 := .slice (some ⟨gg, 0, none⟩) (hs.length + 1) cg) Z4
        obtain ⟨v0, v1, _, _⟩ := lies2 Z5
        go_wp2_with fail
        refine bodyPost_ret (v := .agg #[.slice (some ⟨g, 0, none⟩) n c, .slice (some ⟨gg, 0, none⟩) (hs.length + 1) cg]) (by simp [results, Tryz.results28, go_sem, v0, v1]) rfl ?_
        have hD5 := (hD4.only ((Only.refl w.heap.size x4).set (p := ⟨w.heap.size, 0, none⟩) (.inl rfl) (.slice (some ⟨g, 0, none⟩) n c)) (by omega)).only ((Only.refl w.heap.size _).set (p := ⟨w.heap.size, 1, none⟩) (.inl rfl) (.slice (some ⟨gg, 0, none⟩) (hs.length + 1) cg)) (by omega)
        exact ⟨⟨g, n, c, l⟩, _, hs ++ [(⟨g3, n3, c3, l3⟩ : LoopT)], k3, rfl, hD5.mono (by omega), ⟨by simp; try omega, ⟨_, _, _, rfl⟩⟩, by omega, (R4.set (by show r < w.heap.size; omega) _).set (by show r < w.heap.size; omega) _, (P4.set (.inr (by show w.heap.size ≤ w.heap.size; omega)) _).set (.inr (by show w.heap.size ≤ w.heap.size; omega)) _⟩
      · skip
        refine wpOp_now rfl (by rfl) ?_
        go_simp
        refine wpAnyH_all (rs := [1]) (by kernel_rfl) (by simp) ?_
        intro i hi
        obtain rfl : i = 1 := by simpa using hi
        refine YieldsIf.wpOp (S := fun w' => w' = w3.alloc (.cells #[.slice (some ⟨g3, 0, none⟩) n3 c3] 22)) (v := .slice (some ⟨gh, 0, none⟩) hs.length ch) rfl (Or.inl ⟨by rfl, by rintro w' rfl; go_simp⟩) rfl ⟨trivial, ?_⟩
        refine wpAnyH_all (rs := [5]) (by kernel_rfl) (by simp) ?_
        intro i hi
        obtain rfl : i = 5 := by simpa using hi
        refine wpOp_now rfl (by rfl) ?_
        refine wp_append_lies _ _ _ _ (by rfl) (w.heap.size + 1) 22 i0 _ 1 24 Tryz.underlying23 hi0 hz0 hz1 hz2 rfl (by omega) _ hs.length _ (by rfl) (hD3.2.2.1.alloc _) ⟨w3.heap.size, 0, none⟩ 1 1 [.slice (some ⟨g3, 0, none⟩) n3 c3] (by rfl) (by rfl) (World.news_of_block (cs := #[.slice (some ⟨g3, 0, none⟩) n3 c3]) (t := 22) (fr := (0, 0)) (heap_alloc_new w3 _)) (by simp [Value.oneCell']) (by omega) hmax (by omega) (by simp; omega) (w3.heap.size + 1) (by simp) ?_
        intro gg cg w5 hown5 hgr5 hat5 hlt5
        refine ⟨trivial, ?_⟩
        simp only [Act.put, List.setIfInBounds_toArray]
        refine wpAnyH_take (i := 6) (v := .pointer (some ⟨w1.heap.size, 1, none⟩)) rfl (by kernel_rfl) (by kernel_rfl) (by kernel_rfl) (fun _ _ _ h => h) (Or.inl ⟨by rfl, by intro w' _; go_simp⟩) trivial ?_
        refine wpAnyH_all (rs := [7]) (by kernel_rfl) (by simp) ?_
        intro i hi
        obtain rfl : i = 7 := by simpa using hi
        have Bq : Below w3.heap.size w3 (w3.alloc (.cells #[.slice (some ⟨g3, 0, none⟩) n3 c3] 22)) := (by repeat (first | exact bw_refl _ | assumption | apply bw_drewN | apply bw_drew | apply bw_alloc | refine bw_set ?_ (by simp) _))
        have Lp5 := lies_grown (Lp3.alloc _) hgr5 (fun e => by have e' : w1.heap.size = gh := Option.some.inj e; omega)
        have Z5' := lies_grown (Z3.alloc _) hgr5 (fun e => by have e' : w.heap.size = gh := Option.some.inj e; omega)
        obtain ⟨d05, d15, f05, f15⟩ := lies2 Lp5
        refine wpOp_now rfl (by rfl) ?_
        go_simp
        refine wpAnyH_done (by kernel_rfl) ?_ _
        simp only [Exit.then, Exit.inBlock]
        have hne3 : ∀ t : LoopT, t.ok (w.heap.size + 1) w3 → some t.g ≠ Value.ownBlock (.slice (some ⟨gh, 0, none⟩) hs.length ch) := fun t ht e => by obtain ⟨_, _, _, _, _, _, h7⟩ := ht; exact blk_ne_own h7 hD3.2.2.1 (Option.some.inj e)
        have hggn : gg ≠ w1.heap.size := hat5.elim (fun e => by have e' : gh = gg := Option.some.inj e; omega) (fun e => by omega)
        have O5 : Only w1.heap.size w5 (w5.setCell ⟨w1.heap.size, 1, none⟩ (.slice (some ⟨gg, 0, none⟩) (hs.length + 1) cg)) := (Only.refl w1.heap.size w5).set (.inl rfl) _
        have keep5 : ∀ t : LoopT, t.ok (w.heap.size + 1) w3 → t.g ≠ w1.heap.size → t.ok (w.heap.size + 1) (w5.setCell ⟨w1.heap.size, 1, none⟩ (.slice (some ⟨gg, 0, none⟩) (hs.length + 1) cg)) := fun t ht hne => ((ht.below Bq).grown hgr5 (hne3 t ht)).only' O5 hne
        have hr5 := own_only' hown5 O5 (fun e => hggn (Option.some.inj e))
        have hD4 : PlD (w.heap.size + 1) (w5.setCell ⟨w1.heap.size, 1, none⟩ (.slice (some ⟨gg, 0, none⟩) (hs.length + 1) cg)) ⟨g, n, c, l⟩ (.slice (some ⟨gg, 0, none⟩) (hs.length + 1) cg) (hs ++ [(⟨g3, n3, c3, l3⟩ : LoopT)]) := by
          refine ⟨keep5 _ hD3.1 (by show g ≠ _; omega), by simp; omega, by simpa [LoopT.v] using hr5, fun t ht => ?_⟩
          rcases List.mem_append.1 ht with h | h
          · exact keep5 t (hD3.2.2.2 t h) (Nat.ne_of_lt (hgs t h))
          · obtain rfl : t = ⟨g3, n3, c3, l3⟩ := by simpa using h
            exact keep5 _ ⟨h3, by show n3 ≤ 8; omega, hl3, hc3, hm3, by show w.heap.size + 1 ≤ g3; omega, hB3⟩ (by show g3 ≠ _; omega)
        have R4 := ((R3.below Bq).grown hgr5 (fun j e => by have e' : gh = j := Option.some.inj e; omega)).set (p := ⟨w1.heap.size, 1, none⟩) (by show r < w1.heap.size; omega) (.slice (some ⟨gg, 0, none⟩) (hs.length + 1) cg)
        have P4 := ((P3.trans (Only.of_below Bq)).grown hgr5 (fun j e => by have e' : gh = j := Option.some.inj e; omega)).set (p := ⟨w1.heap.size, 1, none⟩) (.inr (by show w.heap.size ≤ w1.heap.size; omega)) (.slice (some ⟨gg, 0, none⟩) (hs.length + 1) cg)
        have L4 := lies_set1 (z := .slice (some ⟨gg, 0, none⟩) (hs.length + 1) cg) Lp5
        have Z4 : Lies w.heap.size #[.slice none 0 0, .slice none 0 0] 25 (w5.setCell ⟨w1.heap.size, 1, none⟩ (.slice (some ⟨gg, 0, none⟩) (hs.length + 1) cg)) := set_oth Z5' (by omega)
        clear hown5 hgr5 hat5 hlt5 keep5 hr5 O5 hne3 hD3 Lp3 Z3 R3 P3 Lp5 Z5' d03 d13 f03 f13 d05 d15 f05 f15 Bq hB3 O3 hX PD ZD LpD hDD
        generalize w5.setCell ⟨w1.heap.size, 1, none⟩ (.slice (some ⟨gg, 0, none⟩) (hs.length + 1) cg) = x4 at *
        clear y0 y1 yf0 yf1 d0 d1 f0 f1
        obtain ⟨d0, d1, f0, f1⟩ := lies2 L4
        obtain ⟨y0, y1, yf0, yf1⟩ := lies2 Z4
        have Z5 := setB2 (u0 := .slice (some ⟨g, 0, none⟩) n c) (u1 := .slice (some ⟨gg, 0, none⟩) (hs.length + 1) cg) Z4
        obtain ⟨v0, v1, _, _⟩ := lies2 Z5
        go_wp2_with fail
        refine bodyPost_ret (v := .agg #[.slice (some ⟨g, 0, none⟩) n c, .slice (some ⟨gg, 0, none⟩) (hs.length + 1) cg]) (by simp [results, Tryz.results28, go_sem, v0, v1]) rfl ?_
        have hD5 := (hD4.only ((Only.refl w.heap.size x4).set (p := ⟨w.heap.size, 0, none⟩) (.inl rfl) (.slice (some ⟨g, 0, none⟩) n c)) (by omega)).only ((Only.refl w.heap.size _).set (p := ⟨w.heap.size, 1, none⟩) (.inl rfl) (.slice (some ⟨gg, 0, none⟩) (hs.length + 1) cg)) (by omega)
        exact ⟨⟨g, n, c, l⟩, _, hs ++ [(⟨g3, n3, c3, l3⟩ : LoopT)], k3, rfl, hD5.mono (by omega), ⟨by simp; try omega, ⟨_, _, _, rfl⟩⟩, by omega, (R4.set (by show r < w.heap.size; omega) _).set (by show r < w.heap.size; omega) _, (P4.set (.inr (by show w.heap.size ≤ w.heap.size; omega)) _).set (.inr (by show w.heap.size ≤ w.heap.size; omega)) _⟩
  · have hok := hD.1
    obtain ⟨o1, o2, o3, o4, o5, o6, o7⟩ := hok
    have o3' : l.length = n := o3
    have o1' : 3 ≤ n := o1
    have hownO : w2.ownsRow (w.heap.size + 1) 73 2 (.slice (some ⟨g, 0, none⟩) n c) n (ptCells l) := own_of_blk o7 o3 o4 o5 o6
    have hm1 : (w2.alloc (.cells #[] 73)).ownsRow w2.heap.size 73 2 (.slice (some ⟨w2.heap.size, 0, none⟩) 0 0) 0 [] := World.ownsRow_made w2 #[] 0 (Nat.le_refl _) (by simp [maxLen]) rfl
    have hnw : ∀ j u, (ptCells l)[j]? = some u → (w2.alloc (.cells #[] 73)).cell? ((⟨g, 0, none⟩ : Addr).add j) = some u := (hownO.alloc _).cells (g := g) rfl
    have hone : ∀ u ∈ ptCells l, u.oneCell' = true := by intro u hu; simp only [ptCells, List.mem_flatMap] at hu; obtain ⟨p, _, hp⟩ := hu; simp at hp; rcases hp with rfl | rfl <;> rfl
    have hpl : (ptCells l).length = n * 2 := by rw [ptCells_len, o3']
    have B1 : Below w2.heap.size w2 (w2.alloc (.cells #[] 73)) := (by repeat (first | exact bw_refl _ | assumption | apply bw_drewN | apply bw_drew | apply bw_alloc | refine bw_set ?_ (by simp) _))
    have LqA := Lp.below B1
    have ZA := Z.below B1
    have z02 : w.heap.size < w2.heap.size := by omega
    have zr2 := R.lt
    go_wp2_with (first
      | (at_builtin; refine wpList_append_own_wide _ rfl _ _ _ rfl w2.heap.size 73 j0 _ 2 16 Tryz.underlying22 hj0 jz0 jz1 jz2 rfl (by omega) _ 0 [] rfl hm1 ⟨g, 0, none⟩ n c (ptCells l) rfl hpl hnw hone (by simp [maxLen]; omega) (by omega) (by simp) ?_; intro v1 x6 hown1 hgr1 hnil1; have zx6 := hgr1.size; have Lq6 := lies_grown LqA hgr1 (fun e => absurd (Option.some.inj e) (Nat.ne_of_lt z2)); have R6 := (R.below B1).grown hgr1 (fun j e => by have e' : w2.heap.size = j := Option.some.inj e; omega); have zw6 : w2.heap.size + 1 ≤ x6.heap.size := by simpa using zx6)
      | (go_at_call 49; refine (l71Pt_any (k1 + 1) a len cap r _ (by omega) R6).mono ?_; rintro e x7 ⟨s, t, k7, rfl, hPB, hk7, R7, O7⟩; have zx7 := O7.size; have Z6 := lies_grown ZA hgr1 (fun e => absurd (Option.some.inj e) (Nat.ne_of_lt z02)); have Lq7 : Lies w1.heap.size #[.slice (some ⟨g, 0, none⟩) n c, .slice (some ⟨gh, 0, none⟩) hs.length ch] 25 x7 := keepO O7 Lq6 (by omega); have hown7 := own_only hown1 O7 (by omega); have Z7 : Lies w.heap.size #[.slice none 0 0, .slice none 0 0] 25 x7 := keepO O7 Z6 (by omega))
      | (at_builtin; refine wpList_append_lies _ rfl _ _ _ rfl w2.heap.size 73 j0 _ 2 16 Tryz.underlying22 hj0 jz0 jz1 jz2 rfl (by omega) _ (0 + n) _ rfl (hown7.alloc _) ⟨x7.heap.size, 0, none⟩ 1 1 [.int .i64 s, .int .i64 t] rfl rfl (World.news_of_block (cs := #[.int .i64 s, .int .i64 t]) (t := 73) (fr := (0, 0)) (heap_alloc_new x7 _)) (by simp [Value.oneCell']) (by omega) (by simp [maxLen]; omega) (by omega) (by simp; omega) (x7.heap.size + 1) (by simp) ?_; intro gg cg x8 hown8 hgr8 hat8 hlt8; have Lq8 := lies_grown (Lq7.alloc _) hgr8 (fun e => by have := (hown7.lt _ e.symm).1; omega); obtain ⟨s0, s1, sf0, sf1⟩ := lies2 Lq8; have Z8 := lies_grown (Z7.alloc _) hgr8 (fun e => by have := (hown7.lt _ e.symm).1; omega); obtain ⟨yy0, yy1, yyf0, yyf1⟩ := lies2 Z8))
    have Z9 : Lies w.heap.size #[.slice none 0 0, .slice none 0 0] 25 (x8.setCell ⟨w1.heap.size, 0, none⟩ (.slice (some ⟨gg, 0, none⟩) (n + 1) cg)) := set_oth Z8 (by omega)
    have Z10 := setB2 (u0 := .slice (some ⟨gg, 0, none⟩) (n + 1) cg) (u1 := .slice (some ⟨gh, 0, none⟩) hs.length ch) Z9
    obtain ⟨v0, v1', _, _⟩ := lies2 Z10
    refine bodyPost_ret (v := .agg #[.slice (some ⟨gg, 0, none⟩) (n + 1) cg, .slice (some ⟨gh, 0, none⟩) hs.length ch]) (by simp [results, Tryz.results28, go_sem, v0, v1']) rfl ?_
    have B2 : Below x7.heap.size x7 (x7.alloc (.cells #[.int .i64 s, .int .i64 t] 73)) := (by repeat (first | exact bw_refl _ | assumption | apply bw_drewN | apply bw_drew | apply bw_alloc | refine bw_set ?_ (by simp) _))
    have n8 : ∀ j : Nat, some j = v1.ownBlock → w2.heap.size ≤ j := fun j e => (hown7.lt j e.symm).1
    have O9 : Only w1.heap.size x8 (x8.setCell ⟨w1.heap.size, 0, none⟩ (.slice (some ⟨gg, 0, none⟩) (n + 1) cg)) := (Only.refl w1.heap.size x8).set (.inl rfl) _
    have keep9 : ∀ t : LoopT, t.ok (w.heap.size + 1) w2 → t.g ≠ w1.heap.size → t.ok (w.heap.size + 1) (x8.setCell ⟨w1.heap.size, 0, none⟩ (.slice (some ⟨gg, 0, none⟩) (n + 1) cg)) := fun t ht hne => by
      have hl : t.g < w2.heap.size := ht.lt
      have hb : w.heap.size + 1 ≤ t.g := ht.2.2.2.2.2.1
      exact ((((ht.below B1).grown hgr1 (fun e => absurd (Option.some.inj e) (Nat.ne_of_lt hl))).only O7 (by omega)).below B2).grown hgr8 (fun e => by have := n8 _ e; omega) |>.only' O9 hne
    have hr9 := own_only' (own_grown (own_below (own_only (own_grown (own_below hD.2.2.1 B1) hgr1 (fun e => by have e' : gh = w2.heap.size := Option.some.inj e; omega)) O7 (by omega)) B2) hgr8 (fun e => by have := n8 gh e; omega)) O9 (fun e => by have e' : gh = w1.heap.size := Option.some.inj e; omega)
    have hggw : w2.heap.size ≤ gg := (hown8.lt gg rfl).1
    have hown9 : x8.ownsRow (w.heap.size + 1) 73 2 (.slice (some ⟨gg, 0, none⟩) (n + 1) cg) (n + 1) (ptCells (l ++ [(s, t)])) := by
      rw [ptCells_snoc]
      have := own_mono hown8 (show w.heap.size + 1 ≤ w2.heap.size by omega)
      simpa using this
    obtain ⟨hb9, hnc9, hcm9, hbg9⟩ := blk_of_own hown9 (by simp [o3'])
    have hD4 : PlD (w.heap.size + 1) (x8.setCell ⟨w1.heap.size, 0, none⟩ (.slice (some ⟨gg, 0, none⟩) (n + 1) cg)) ⟨gg, n + 1, cg, l ++ [(s, t)]⟩ (.slice (some ⟨gh, 0, none⟩) hs.length ch) hs :=
      ⟨LoopT.ok.only' ⟨by show 3 ≤ n + 1; omega, by show n + 1 ≤ 8; omega, by simp [o3'], hnc9, hcm9, by show w.heap.size + 1 ≤ gg; omega, hb9⟩ O9 (by show gg ≠ _; omega), hD.2.1, hr9, fun t ht => keep9 t (hD.2.2.2 t ht) (Nat.ne_of_lt (hgs t ht))⟩
    have R4 := ((R7.below B2).grown hgr8 (fun j e => by have := n8 j e.symm; omega)).set (p := ⟨w1.heap.size, 0, none⟩) (by show r < w1.heap.size; omega) (.slice (some ⟨gg, 0, none⟩) (n + 1) cg)
    have P4 := (((((P.trans (Only.of_below B1)).grown hgr1 (fun j e => by have e' : w2.heap.size = j := Option.some.inj e; omega)).trans O7).trans (Only.of_below B2)).grown hgr8 (fun j e => by have := n8 j e.symm; omega)).set (p := ⟨w1.heap.size, 0, none⟩) (.inr (by show w.heap.size ≤ w1.heap.size; omega)) (.slice (some ⟨gg, 0, none⟩) (n + 1) cg)
    generalize x8.setCell ⟨w1.heap.size, 0, none⟩ (.slice (some ⟨gg, 0, none⟩) (n + 1) cg) = x4 at *
    have hD5 := (hD4.only ((Only.refl w.heap.size x4).set (p := ⟨w.heap.size, 0, none⟩) (.inl rfl) (.slice (some ⟨gg, 0, none⟩) (n + 1) cg)) (by omega)).only ((Only.refl w.heap.size _).set (p := ⟨w.heap.size, 1, none⟩) (.inl rfl) (.slice (some ⟨gh, 0, none⟩) hs.length ch)) (by omega)
    exact ⟨⟨gg, n + 1, cg, l ++ [(s, t)]⟩, _, hs, k7, rfl, hD5.mono (by omega), ⟨by omega, ⟨_, _, _, rfl⟩⟩, by omega, (R4.set (by show r < w.heap.size; omega) _).set (by show r < w.heap.size; omega) _, (P4.set (.inr (by show w.heap.size ≤ w.heap.size; omega)) _).set (.inr (by show w.heap.size ≤ w.heap.size; omega)) _⟩
  · have e0 : (q == 0) = false := by simpa using q0
    have e1 : (q == 1) = false := by simpa using q1
    have e2 : (q == 2) = false := by simpa using q2
    have Z1 := setB2 (u0 := .slice (some ⟨g, 0, none⟩) n c) (u1 := .slice (some ⟨gh, 0, none⟩) hs.length ch) Z
    obtain ⟨v0, v1, _, _⟩ := lies2 Z1
    go_wp2_with fail
    refine bodyPost_ret (v := .agg #[.slice (some ⟨g, 0, none⟩) n c, .slice (some ⟨gh, 0, none⟩) hs.length ch]) (by simp [results, Tryz.results28, go_sem, v0, v1]) rfl ?_
    have hD2 := (hD.only ((Only.refl w.heap.size w2).set (p := ⟨w.heap.size, 0, none⟩) (.inl rfl) (.slice (some ⟨g, 0, none⟩) n c)) (by omega)).only ((Only.refl w.heap.size _).set (p := ⟨w.heap.size, 1, none⟩) (.inl rfl) (.slice (some ⟨gh, 0, none⟩) hs.length ch)) (by omega)
    exact ⟨⟨g, n, c, l⟩, _, hs, k1 + 1, rfl, hD2.mono (by omega), ⟨by omega, hst⟩, by omega, (R.set (by show r < w.heap.size; omega) _).set (by show r < w.heap.size; omega) _, (P.set (.inr (by show w.heap.size ≤ w.heap.size; omega)) _).set (.inr (by show w.heap.size ≤ w.heap.size; omega)) _⟩
end Go.Proofs.YthjnfjnnpabenaaGreatDoor
namespace Go.Proofs.YthjnfjnnpabenaaGreatDoor
open Go.RowKit

theorem PlD.set {base b i : Nat} {W : World} {o : LoopT} {hv : Value} {hs : List LoopT} (h : PlD base W o hv hs) (hb : b < base) (v : Value) : PlD base (W.setCell ⟨b, i, none⟩ v) o hv hs :=
  h.only ((Only.refl b W).set (p := ⟨b, i, none⟩) (.inl rfl) v) hb
end Go.Proofs.YthjnfjnnpabenaaGreatDoor
namespace Go.Proofs.YthjnfjnnpabenaaGreatDoor
open Go.RowKit Go.Sort

set_option maxHeartbeats 1000000 in
theorem of_rd (k : Nat) (a : Option Addr) (len cap r g : Nat) (ss : List ByteArray) (w : World) (hk : k ≤ 900000) (R : Rd w r k a len cap) (hl : w.heap[g]? = some (.cells (ss.map Value.string).toArray 9 (0, 0))) (n : Nat) (hN : ss.length = n) (hn : 1 ≤ n) (h5 : n ≤ 100) (hgr : g ≠ r) :
    Calls Tryz.prog 39 #[.pointer (some ⟨r, 0, none⟩), .slice (some ⟨g, 0, none⟩) n n] w fun e w' => ∃ s, s ∈ ss ∧ e = .returned (.string s) ∧ Rd w' r (k + 1) a len cap ∧ Only r w w' := by
  have HN : Hid (ss.length = n) := hN
  clear hN
  go_enter Tryz.func39, Tryz.ntmps39
  go_wp2_with fail
  refine (pick_rd n k a len cap r _ (by omega) (by omega) R).mono ?_
  rintro e w1 ⟨q, rfl, qa, qb, R1, O⟩
  obtain ⟨m, rfl⟩ := Int.eq_ofNat_of_zero_le qa
  have hm : m < ss.length := by rw [HN.out]; omega
  have c0 : w1.cell? ⟨g, m, none⟩ = some (.string ss[m]) := by
    rw [row_cell (keepO O hl hgr), List.getElem?_toArray, List.getElem?_map, List.getElem?_eq_getElem hm]; rfl
  have hmem := List.getElem_mem hm
  generalize ss[m] = s at *
  go_wp2_with fail
  go_ret
  exact ⟨s, hmem, rfl, R1, O⟩
end Go.Proofs.YthjnfjnnpabenaaGreatDoor
namespace Go.Proofs.YthjnfjnnpabenaaGreatDoor
open Go.RowKit Go.Sort

theorem ptB'_size (o : List P2) (hs : List (List P2)) : (ptB' o hs).size ≤ 1059 := by
  unfold ptB'
  split
  · rename_i h
    have hl : ∀ l ∈ o :: hs, (txL l).length ≤ 352 := fun l hl => by
      have L := (plV_iff _ _).1 h
      rcases List.mem_cons.1 hl with rfl | hl
      · exact tx_short L.out
      · exact tx_short (L.ok _ hl)
    have h2 := ((plV_iff _ _).1 h).len
    have key : ∀ ls : List (List P2), (∀ l ∈ ls, (txL l).length ≤ 352) → (ptxL ls).length ≤ 353 * ls.length := by
      intro ls
      induction ls with
      | nil => intro _; simp [ptxL]
      | cons x r ih =>
        intro hx
        have h3 := ih (fun l hl => hx l (List.mem_cons_of_mem _ hl))
        have h4 := hx x List.mem_cons_self
        unfold ptxL at h3 ⊢
        simp only [List.flatMap_cons, List.length_append, List.length_cons, List.length_nil]
        omega
    have h3 := key (o :: hs) hl
    simp only [List.length_cons] at h3
    show (ptxL (o :: hs)).toArray.size ≤ 1059
    rw [List.size_toArray]
    omega
  · exact Nat.zero_le _
set_option maxRecDepth 100000 in
set_option maxHeartbeats 2000000 in
theorem drawPlateText_any {a : Option Addr} {len0 cap : Nat} {zs : List Int} (w0 w : World) (h : IsRow .u8 w0 a len0 cap zs) (hb : Below w0.heap.size w0 w) :
    Calls Tryz.prog 11 #[.slice a len0 cap] w fun e w' => ∃ (o : LoopT) (hv : Value) (hs : List LoopT), e = .returned (.agg #[o.v, hv]) ∧ PlD w.heap.size w' o hv hs ∧ (hs.length ≤ 3 ∧ Seat hv) ∧ Below w.heap.size w w' := by
  obtain ⟨W, hW, BW, T⟩ := boxes1' w (.cells #[.slice none 0 0, .slice none 0 0] 25)
  go_enter Tryz.func11, Tryz.ntmps11
  go_wp2_with fail
  rw [← hW]
  clear hW
  refine (open_rd w0 _ h (bw_trans hb BW)).mono ?_
  rintro e w1 ⟨len, rfl, R, hb1⟩
  have zT := blk_lt T
  replace T := keep hb1 T
  have K := bw_trans BW hb1
  have z1 := hb1.size
  have zr := R.lt
  clear hb1 BW
  go_wp2_with fail
  refine (plate_any 0 a len cap _ _ (by omega) R).mono ?_
  clear R
  rintro e w2 ⟨⟨g, n, c, l⟩, hv, hs, k2, he, hD, ⟨hs3, hst⟩, hk2, R, P⟩
  obtain rfl : e = .returned (.agg #[.slice (some ⟨g, 0, none⟩) n c, hv]) := he
  replace T := keepO P T (by omega)
  have KK := K.trans (P.below' (B := w.heap.size) (by omega) (by omega))
  obtain ⟨gh, ch, rfl⟩ : ∃ gh ch, hv = .slice (some ⟨gh, 0, none⟩) hs.length ch := own_seat hD.2.2.1 hst
  obtain ⟨a0, a1, af0, af1⟩ := blk2 T
  go_wp2_with fail
  have T' := setB2 (u0 := .slice (some ⟨g, 0, none⟩) n c) (u1 := .slice (some ⟨gh, 0, none⟩) hs.length ch) T
  obtain ⟨v0, v1, _, _⟩ := blk2 T'
  refine bodyPost_ret (v := .agg #[.slice (some ⟨g, 0, none⟩) n c, .slice (some ⟨gh, 0, none⟩) hs.length ch]) (by simp [results, Tryz.results11, go_sem, v0, v1]) rfl ?_
  exact ⟨⟨g, n, c, l⟩, _, hs, rfl, ((hD.set (by omega) _).set (by omega) _).mono (by omega), ⟨hs3, hst⟩, (KK.setCell (p := ⟨w.heap.size, 0, none⟩) (Nat.le_refl _) _).setCell (p := ⟨w.heap.size, 1, none⟩) (Nat.le_refl _) _⟩
set_option maxRecDepth 100000 in
set_option maxHeartbeats 4000000 in
theorem drawPlateRead_any {a : Option Addr} {len0 cap : Nat} {zs : List Int} (w0 w : World) (h : IsRow .u8 w0 a len0 cap zs) (hb : Below w0.heap.size w0 w) :
    Calls Tryz.prog 16 #[.slice a len0 cap] w fun e w' => ∃ s : ByteArray, e = .returned (.string s) ∧ s.size ≤ 2000 ∧ Below w.heap.size w w' := by
  go_enter Tryz.func16, Tryz.ntmps16
  go_wp2_with fail
  refine (open_rd w0 _ h hb).mono ?_
  rintro e w1 ⟨len, rfl, R, hb1⟩
  have z1 := hb1.size
  have zr := R.lt
  go_wp2_with fail
  refine (plate_any 0 a len cap _ _ (by omega) R).mono ?_
  clear R
  rintro e w2 ⟨⟨g, n, c, l⟩, hv, hs, k', he, hD, ⟨hs3, hst⟩, hk', R, O⟩
  obtain rfl : e = .returned (.agg #[.slice (some ⟨g, 0, none⟩) n c, hv]) := he
  obtain ⟨gh, ch, rfl⟩ : ∃ gh ch, hv = .slice (some ⟨gh, 0, none⟩) hs.length ch := own_seat hD.2.2.1 hst
  have zO := O.size
  have hST := sPlateText_any (some ⟨g, 0, none⟩) (some ⟨gh, 0, none⟩) n c hs.length ch l (hs.map LoopT.l) w2 hD.plt
  clear hD
  have hts := ptB'_size l (hs.map LoopT.l)
  generalize ptB' l (hs.map LoopT.l) = t at *
  go_wp2_with fail
  refine hST.mono ?_
  clear hST
  rintro e w3 ⟨rfl, J⟩
  replace R := R.below J
  replace O := O.trans ⟨J.os, J.tape, J.output, J.size, fun j _ hj => J.block j hj⟩
  have ht0 : (0 : Int) ≤ (t.size : Int) := Int.natCast_nonneg _
  have k1 : IntKind.i64.wrap ((t.size : Int) + 1) = (t.size : Int) + 1 := wrap_small (by omega) (by omega)
  go_wp2_with fail
  refine (pick_rd ((t.size : Int) + 1) k' a len cap _ _ (by omega) (by omega) R).mono ?_
  clear R
  rintro e w4 ⟨p, rfl, pa, pb, R, O4⟩
  obtain ⟨m, rfl⟩ := Int.eq_ofNat_of_zero_le pa
  replace O := O.trans O4
  go_wp2_with fail
  refine (pick_rd 8 (k' + 1) a len cap _ _ (by omega) (by omega) R).mono ?_
  clear R O4
  rintro e w5 ⟨q, rfl, qa, qb, R, O5⟩
  replace O := O.trans O5
  have BB : Below w.heap.size w w5 := hb1.trans (O.below' (B := w.heap.size) (Nat.le_refl _) (by omega))
  have hmt : m ≤ t.size := by omega
  by_cases q0 : q = 0
  · subst q0
    go_wp2_with fail
    go_ret
    exact ⟨t.extract 0 m, rfl, by rw [ByteArray.size_extract]; omega, BB⟩
  by_cases q1 : q = 1
  · subst q1
    have z5 := O.size
    have h4 : ∀ s ∈ ([⟨#[48]⟩, ⟨#[32]⟩, ⟨#[10]⟩, ⟨#[32, 53, 44, 53]⟩, ⟨#[120]⟩] : List ByteArray), s.size ≤ 4 := by
      intro s hs
      simp only [List.mem_cons, List.not_mem_nil, or_false] at hs
      rcases hs with rfl | rfl | rfl | rfl | rfl <;> decide
    have hOf := of_rd (k' + 1 + 1) a len cap _ w5.heap.size [⟨#[48]⟩, ⟨#[32]⟩, ⟨#[10]⟩, ⟨#[32, 53, 44, 53]⟩, ⟨#[120]⟩] ((w5.alloc (.cells #[.string ⟨#[48]⟩, .string ⟨#[32]⟩, .string ⟨#[10]⟩, .string ⟨#[32, 53, 44, 53]⟩, .string ⟨#[120]⟩] 9)).drew) (by omega) (R.alloc _).drew (heap_new w5 _) 5 rfl (by decide) (by decide) (by omega)
    have i0 : (0 : Int) ≤ (m : Int) := Int.natCast_nonneg _
    have i1 : (m : Int) ≤ (t.size : Int) := by omega
    go_wp2_with fail
    go_region_held3 (fun _ => True) (trivial) (first | (go_at_call 39; (with_reducible refine hOf.mono ?_); rintro e w6 ⟨s, hs, rfl, R6, O6⟩; have hs4 := h4 s hs; have y1 : (9223372036854775807 < min m t.size + s.size) = False := (by simp; omega); have y2 : (9223372036854775807 < m + s.size) = False := (by simp; omega); have y3 : (9223372036854775807 < min m t.size + s.size + (t.size - m)) = False := (by simp; omega); have y4 : (9223372036854775807 < m + s.size + (t.size - m)) = False := (by simp; omega); have y5 : min m t.size = m := (by omega)))
    go_wp2_with fail
    go_ret
    have OO := (O.alloc (.cells #[.string ⟨#[48]⟩, .string ⟨#[32]⟩, .string ⟨#[10]⟩, .string ⟨#[32, 53, 44, 53]⟩, .string ⟨#[120]⟩] 9)).drew.trans O6
    exact ⟨t.extract 0 m ++ s ++ t.extract m t.size, rfl, by rw [ByteArray.size_append, ByteArray.size_append, ByteArray.size_extract, ByteArray.size_extract]; omega, hb1.trans (OO.below' (B := w.heap.size) (Nat.le_refl _) (by omega))⟩
  · have x0 : (q == 0) = false := by simpa using q0
    have x1 : (q == 1) = false := by simpa using q1
    go_wp2_with fail
    go_ret
    exact ⟨t, rfl, by omega, BB⟩
end Go.Proofs.YthjnfjnnpabenaaGreatDoor
namespace Go.Proofs.YthjnfjnnpabenaaGreatDoor
open Go.RowKit Go.Sort

theorem ptB'_ok {o : List P2} {hs : List (List P2)} (h : plV o hs = true) : ptB' o hs = ⟨(ptxL (o :: hs)).toArray⟩ := by unfold ptB'; rw [h, if_pos rfl]
theorem ptxL_first (o : List P2) (hs : List (List P2)) : ptxL (o :: hs) = (txL o ++ [10]) ++ ptxL hs := by unfold ptxL; simp
set_option maxRecDepth 100000 in
set_option maxHeartbeats 4000000 in
theorem plateBack_walk (w : World) (a0 : Option Addr) (len0 cap0 : Nat) (z0 : List Int) (r0 : IsRow .u8 w a0 len0 cap0 z0) (hL : Lib4 w) :
    Calls Tryz.prog 4 #[.slice a0 len0 cap0] w fun e w' => e = .returned (.bool true) ∧ Below w.heap.size w w' := by
  by_cases hl0 : (1048576 : Int) < (len0 : Int)
  · go_enter Tryz.func4, Tryz.ntmps4
    go_wp2_with fail
    go_ret
    exact ⟨rfl, bw_refl _⟩
  go_enter Tryz.func4, Tryz.ntmps4
  go_wp2_with fail
  refine (drawPlateText_any w _ r0 (bw_refl _)).mono ?_
  rintro e w1 ⟨⟨g, n, c, l⟩, hv0, hs, he, hD, ⟨hs3, hst⟩, J1⟩
  obtain rfl : e = .returned (.agg #[.slice (some ⟨g, 0, none⟩) n c, hv0]) := he
  obtain ⟨gh, ch, rfl⟩ : ∃ gh ch, hv0 = .slice (some ⟨gh, 0, none⟩) hs.length ch := own_seat hD.2.2.1 hst
  have hp := hD.plt
  have hL1 := hL.below J1
  obtain ⟨os, hos⟩ : ∃ os, hs.map LoopT.l = os := ⟨_, rfl⟩
  obtain ⟨nh, hnh⟩ : ∃ nh, hs.length = nh := ⟨_, rfl⟩
  have hpo : os.length = nh := by rw [← hos, List.length_map, hnh]
  rw [hos, hnh] at hp
  dsimp only at hp
  rw [hnh]
  clear hos hnh hD
  obtain ⟨W1, hW1, B1, T1⟩ : ∃ V, V = w1.alloc (.cells #[.slice (some ⟨g, 0, none⟩) n c, .slice (some ⟨gh, 0, none⟩) nh ch] 25) ∧ Below w1.heap.size w1 V ∧ V.heap[w1.heap.size]? = some (.cells #[.slice (some ⟨g, 0, none⟩) n c, .slice (some ⟨gh, 0, none⟩) nh ch] 25 (0, 0)) := ⟨_, rfl, (by repeat (first | exact bw_refl _ | assumption | apply bw_drewN | apply bw_drew | apply bw_alloc | refine bw_set ?_ (by simp) _)), heap_new _ _⟩
  have hpW := hp.below B1
  have hLW := hL1.below B1
  have hT := fun V (J : Below W1.heap.size W1 V) => plateText_any (some ⟨g, 0, none⟩) (some ⟨gh, 0, none⟩) n c nh ch l os V (hLW.below J).tab (hpW.below J)
  have hS := fun V (J : Below W1.heap.size W1 V) => sPlateText_any (some ⟨g, 0, none⟩) (some ⟨gh, 0, none⟩) n c nh ch l os V (hpW.below J)
  have T1' := T1
  rw [hW1] at T1'
  obtain ⟨p0, p1, p2, p3⟩ := blk2 T1'
  cases hv : plV l os with
  | false =>
    have e1 : ptB' l os = ⟨#[]⟩ := by unfold ptB'; rw [hv]; rfl
    rw [e1] at hT hS
    clear e1
    go_wp2_with fail
    rw [← hW1]
    clear hW1
    refine (hT _ (bw_refl _)).mono ?_
    rintro e w2 ⟨rfl, J2⟩
    obtain ⟨p0, p1, p2, p3⟩ := blk2 (keep J2 T1)
    go_wp2_with fail
    refine (hS _ J2).mono ?_
    rintro e w3 ⟨rfl, J3⟩
    have J23 := bw_trans J2 J3
    obtain ⟨p0, p1, p2, p3⟩ := blk2 (keep J23 T1)
    go_wp2_with fail
    refine (hS _ J23).mono ?_
    rintro e w4 ⟨rfl, J4⟩
    go_wp2_with fail
    go_ret
    exact ⟨rfl, bw_trans J1 (bw_trans B1 (bw_trans J23 J4))⟩
  | true =>
    have e1 := ptB'_ok hv
    have hbk := readPl_back hv
    have hft := ptxL_first l os
    obtain ⟨hk, h2, _⟩ := plV_all hv
    rw [e1] at hT hS
    have hts := ptB'_size l os
    rw [e1] at hts
    obtain ⟨z, hz⟩ : ∃ z, ptxL (l :: os) = z := ⟨_, rfl⟩
    rw [hz] at hT hS hbk hft hts
    have hsz : (ByteArray.mk z.toArray).size = z.length := by unfold ByteArray.size; simp
    rw [hsz] at hts
    have hR := fun V (J : Below W1.heap.size W1 V) => plateRead_any ⟨z.toArray⟩ (by rw [hsz]; omega) V (hLW.below J)
    have hdl : (ByteArray.mk z.toArray).data.toList = z := by simp
    rw [hdl, hbk] at hR
    have hLT := fun V (J : Below W1.heap.size W1 V) => loopText_any (some ⟨g, 0, none⟩) n c l (by have := hp.1; omega) V (hLW.below J).tab ((hpW.2.1.below J).grow J.size)
    have e2 : ltB l = ⟨(txL l).toArray⟩ := by unfold ltB; rw [hk]; rfl
    rw [e2] at hLT
    have hne : z.isEmpty = false := by
      rw [hft]
      cases h : txL l with
      | nil => rfl
      | cons _ _ => rfl
    have hcat : Hid (ByteArray.mk (txL l).toArray ++ ByteArray.mk #[10] = ⟨(txL l ++ [10]).toArray⟩) := by
      change _ = _
      apply ByteArray.ext
      simp
    have hlf : (txL l ++ [10]).length ≤ z.length := by rw [hft]; simp only [List.length_append]; omega
    have hfs : (ByteArray.mk (txL l ++ [10]).toArray).size = (txL l ++ [10]).length := by unfold ByteArray.size; simp
    have hex : Hid ((ByteArray.mk z.toArray).extract 0 (txL l ++ [10]).length = ⟨(txL l ++ [10]).toArray⟩) := by
      change _ = _
      rw [hft]
      apply ByteArray.ext
      have := List.take_left (l₁ := txL l ++ [10]) (l₂ := ptxL os)
      simpa using this
    clear hft e1 e2 hv hz
    go_wp2_with fail
    rw [← hW1]
    clear hW1
    refine (hT _ (bw_refl _)).mono ?_
    rintro e w2 ⟨rfl, J2⟩
    obtain ⟨p0, p1, p2, p3⟩ := blk2 (keep J2 T1)
    go_wp2_with fail
    refine (hS _ J2).mono ?_
    rintro e w3 ⟨rfl, J3⟩
    have J23 := bw_trans J2 J3
    obtain ⟨p0, p1, p2, p3⟩ := blk2 (keep J23 T1)
    go_wp2_with fail
    refine (hR _ J23).mono ?_
    rintro e w4 ⟨v4, rfl, A4, J4⟩
    have hA4 : (some (l :: os)).isSome = true := rfl
    obtain ⟨x, c4, xh, ch4, ev, hp4⟩ := A4.plt
    have ev' : v4 = .agg #[.slice x l.length c4, .slice xh os.length ch4] := ev
    have hp4' : Plt w4 x l.length xh os.length l os := hp4
    have hln : l.length = n := hp.2.1.1
    rw [hpo, hln] at ev' hp4'
    subst ev'
    clear ev hp4 hpo hln
    obtain ⟨W4, hW4, B4, T4⟩ : ∃ V, V = w4.alloc (.cells #[.slice x n c4, .slice xh nh ch4] 25) ∧ Below w4.heap.size w4 V ∧ V.heap[w4.heap.size]? = some (.cells #[.slice x n c4, .slice xh nh ch4] 25 (0, 0)) := ⟨_, rfl, (by repeat (first | exact bw_refl _ | assumption | apply bw_drewN | apply bw_drew | apply bw_alloc | refine bw_set ?_ (by simp) _)), heap_new _ _⟩
    have J14 := bw_trans J23 J4
    have J1W := bw_trans J14 B4
    have T14 := keep J1W T1
    have T14' := T14
    rw [hW4] at T14'
    obtain ⟨p0, p1, p2, p3⟩ := blk2 T14'
    go_wp2_with fail
    rw [← hW4]
    clear hW4
    refine (hLT _ J1W).mono ?_
    rintro e w5 ⟨rfl, J5⟩
    have J15 := bw_trans J1W J5
    obtain ⟨p0, p1, p2, p3⟩ := blk2 (keep J5 T14)
    obtain ⟨q0, q1, q2, q3⟩ := blk2 (keep J5 T4)
    have hSm := luPlates_same x xh (some ⟨g, 0, none⟩) (some ⟨gh, 0, none⟩) n c4 nh ch4 c ch l os w5 (hp4'.below (bw_trans B4 J5)) (hpW.below J15) (by have := hp.2.2.1; omega)
    obtain ⟨fl, hfl⟩ : ∃ fl, txL l ++ [10] = fl := ⟨_, rfl⟩
    rw [hfl] at hlf hfs hex hcat
    have hcc := hcat.out
    have hee := hex.out
    have hsl : (ByteArray.mk (txL l).toArray).size ≤ 352 := by
      have := tx_short hk
      unfold ByteArray.size
      simpa using this
    have hsl2 : (txL l).length ≤ 352 := tx_short hk
    have y1 : (9223372036854775807 < (txL l).length + 1) = False := by simp; omega
    have y2 : (9223372036854775807 < (ByteArray.mk (txL l).toArray).size + 1) = False := by simp; omega
    have i0 : (fl.length : Int) ≤ (z.length : Int) := by omega
    go_wp2_with fail
    refine hSm.mono ?_
    clear hSm
    rintro e w6 ⟨rfl, J6⟩
    go_wp2_with fail
    go_ret
    exact ⟨rfl, bw_trans J1 (bw_trans B1 (bw_trans J15 J6))⟩
end Go.Proofs.YthjnfjnnpabenaaGreatDoor
namespace Go.Proofs.YthjnfjnnpabenaaGreatDoor
open Go.ChangeShapes Go.WideShapes Go.ChangeAt Go.RowKit

theorem own : ownKnob Tryz.prog.godebug = none := by kernel_rfl
theorem laidOut : laidOutB Tryz.prog = true := by kernel_rfl
/-- The list. -/
def listTab : List (String × DataW Unit) := [("math/bits.deBruijn32tab", Rows.laid_math_bits_deBruijn32tab), ("math/bits.deBruijn64tab", Rows.laid_math_bits_deBruijn64tab), ("internal/strconv.uint64pow10", Rows.laid_internal_strconv_uint64pow10)]
theorem gPType : (Tryz.prog.globals[1]?).map (·.type) = some 140 := by kernel_rfl
theorem cellsU64 : Tryz.prog.cellsOf 132 = 1 := by kernel_rfl
theorem cellsTab : Tryz.prog.cellsOf 140 = 20 := by kernel_rfl
theorem tabSame : Rows.laid_internal_strconv_uint64pow10 (H := Unit) = Lib.tabData .u64 Lib.pow10Tab := by kernel_rfl
theorem tab_of_laid {W : World} (h : laidMetH Tryz.prog listTab W) : Tab W := by
  rw [MakeChecks.laidMetH_plain _ _ _ (by kernel_rfl)] at h
  have h3 : laidMet Tryz.prog [("internal/strconv.uint64pow10", Rows.laid_internal_strconv_uint64pow10)] W := (laidMet.tail (laidMet.tail h))
  rw [tabSame] at h3
  exact Lib.tabIs_of_head gP gPType Tryz.underlying140 Tryz.underlying132 cellsU64 cellsTab h3
/-- The door's own heap meets the condition. -/
theorem door_met_tab (os : Os) (args : Array Value) : laidMetH Tryz.prog listTab ((World.doorLaid Tryz.prog 72 os).forCall (fun _ _ => 0) ⟨#[], args, []⟩).memory :=
  laidMetH_of_parts3 (fuel := 8) (laidMet_of_run' 8 (by kernel_rfl) (by kernel_rfl)) (by kernel_rfl) (by kernel_rfl)
end Go.Proofs.YthjnfjnnpabenaaGreatDoor
namespace Go.Proofs.YthjnfjnnpabenaaGreatDoor
open Go.ChangeShapes Go.WideShapes Go.ChangeAt Go.RowKit

/-- The list. -/
def listAll : List (String × DataW Unit) := [("math/bits.deBruijn32tab", Rows.laid_math_bits_deBruijn32tab), ("math/bits.deBruijn64tab", Rows.laid_math_bits_deBruijn64tab), ("internal/strconv.uint64pow10", Rows.laid_internal_strconv_uint64pow10), ("unicode/utf8.acceptRanges", Rows.laid_unicode_utf8_acceptRanges), ("strconv.ErrRange", Rows.laid_strconv_ErrRange), ("strconv.ErrSyntax", Rows.laid_strconv_ErrSyntax), ("unicode/utf8.first", Rows.laid_unicode_utf8_first)]
theorem gRngType : (Tryz.prog.globals[5]?).map (·.type) = some 63 := by kernel_rfl
theorem gSynType : (Tryz.prog.globals[4]?).map (·.type) = some 63 := by kernel_rfl
theorem cellsES : Tryz.prog.cellsOf 165 = 1 := by kernel_rfl
theorem cellsStr : Tryz.prog.cellsOf 9 = 1 := by kernel_rfl
theorem star : "*" ++ "errors.errorString" = "*errors.errorString" := by decide
theorem rowES (u : TypeId) (h : Tryz.prog.typeName? 3 u = some "*errors.errorString") : u = 163 :=
  typeName_ptr_named (nm := "errors.errorString") (by rw [star]; kernel_rfl) (by kernel_rfl) (by decide) u (by rw [star]; exact h)
theorem all_of_laid {W : World} (h : laidMetH Tryz.prog listAll W) (hsh : W.ShapedOpen Tryz.prog) : Lib4 W := by
  rw [MakeChecks.laidMetH_plain _ _ _ (by kernel_rfl)] at h
  have h3 := laidMet.tail (laidMet.tail h)
  have h5 := laidMet.tail (laidMet.tail h3)
  have h6 := laidMet.tail h5
  refine ⟨?_, ?_, ?_, ?_⟩
  · rw [tabSame] at h3
    exact Lib.tabIs_of_head gP gPType Tryz.underlying140 Tryz.underlying132 cellsU64 cellsTab h3
  · exact cell_of_shapedOpen_int hsh (g := 0) (t := 3) (zero := #[.int .i64 0]) (of_decide_eq_true (by kernel_rfl)) (by kernel_rfl) rfl (by kernel_rfl) (by kernel_rfl) Tryz.underlying3
  · obtain ⟨a, s, hv, _, _, _⟩ := laid_sentinel h6 gSyn gSynType Tryz.underlying63 rowES Tryz.underlying163 Tryz.underlying165 rfl rfl Tryz.underlying9 cellsES cellsStr
    exact ⟨_, _, hv⟩
  · obtain ⟨a, s, hv, _, _, _⟩ := laid_sentinel h5 gRng gRngType Tryz.underlying63 rowES Tryz.underlying163 Tryz.underlying165 rfl rfl Tryz.underlying9 cellsES cellsStr
    exact ⟨_, _, hv⟩
/-- A heap in which all of them lie. -/
theorem met_all (os : Os) (args : Array Value) : laidMetH Tryz.prog listAll ((World.laidAll Tryz.prog os listAll).forCall (fun _ _ => 0) ⟨#[], args, []⟩).memory := by
  rw [MakeChecks.laidMetH_plain _ _ _ (by kernel_rfl)]
  exact laidMet_laidAll _ (by kernel_rfl) (by kernel_rfl)
theorem shaped_all (os : Os) (args : Array Value) : ((World.laidAll Tryz.prog os listAll).forCall (fun _ _ => 0) ⟨#[], args, []⟩).Shaped Tryz.prog := World.shaped_of_ZipB (by kernel_rfl) (by kernel_rfl)
/-- The wrap: what is listed, and the world's shape. -/
theorem returns_and_shaped {H : Type} {enc : TypeId × Value → H} {a : Assume} {C : Checked} {os : Os} {f : FuncId} {fn : Func} {s : ChangeSpec} {conds : List PathCond} {apart fresh handsOn again : Bool} {X : World → Array Value → Prop}
    (hX : ∀ (w w' : World) (args : Array Value), w.heap = w'.heap → X w args → X w' args)
    (own : ownKnob C.prog.godebug = none) (started : os.Started) (noInit : C.prog.inits.idxOf? f = none) (hfn : C.prog.funcs[f]? = some fn)
    (witness : ∃ (w : World) (tape : Tape) (i : Input), w.os = os ∧ (w.forCall tape i).Shaped C.prog ∧ i.vars = [] ∧ Input.okWide C.prog (w.forCall tape i) .any w.heap.size f i ∧
      ((s.pre enc C.prog fn conds apart (w.forCall tape i).memory i.args ∧ X (w.forCall tape i).memory i.args) ∧ sizedMet enc C.prog fn (OpenSpec.ofChange s) apart (w.forCall tape i).memory i.args) ∧ a.holds C.prog (lone (Frame.enter C.prog f i.args .normal) [] (w.forCall tape i)))
    (contract : ∀ (W : World) (base : Nat) (args : Array Value) (ds gs : List (DataW H)) (before : List MemPlace),
      (∀ (j : Nat) t v, fn.params[j]? = some t → args[j]? = some v → Value.okWide C.prog W .any base t v) →
      DataW.Whole enc C.prog fn.params.toList s.vars apart W args.toList ds gs before → X W args → W.ShapedOpen C.prog →
      Calls C.prog f args W fun e W' => ∃ v, e = .returned v ∧ s.post enc C.prog fn apart fresh handsOn again W args v W') :
    ReturnsInHanded a C os f .any (fun w args => (s.pre enc C.prog fn conds apart w args ∧ X w args) ∧ sizedMet enc C.prog fn (OpenSpec.ofChange s) apart w args) (s.post enc C.prog fn apart fresh handsOn again) := by
  refine returnsInHanded_of_calls own started noInit witness fun w tape i _ hsh _ hok hpre _ => ?_
  obtain ⟨_, _, _, g, hg, _, _, _, _, hval⟩ := hok
  obtain rfl : g = fn := Option.some.inj (hg.symm.trans hfn)
  obtain ⟨⟨⟨ds, gs, before, hw, _⟩, hx⟩, _⟩ := hpre
  refine (contract (w.forCall tape i) w.heap.size i.args ds gs before hval (DataW.Whole.of_heap (w' := w.forCall tape i) (by rfl) hw) (hX _ _ _ (by rfl) hx) hsh).mono fun e W' ⟨v, he, hp⟩ => ?_
  subst he
  exact ChangeSpec.post_blind hp
end Go.Proofs.YthjnfjnnpabenaaGreatDoor
namespace Go.Proofs.YthjnfjnnpabenaaGreatDoor
open Go.ChangeShapes Go.WideShapes Go.ChangeAt Go.RowKit Go.Joins
open Go.ChangeMaps (open_string shut_string)

set_option maxRecDepth 100000 in
theorem fnPlateBack_lifted (os : Os) (started : os.Started) (H : Type) (enc : TypeId × Value → H) :
    ReturnsInHanded {} Tryz.checked os 4 .any (fun w args => (Rows.fnPlateBackSpec.pre enc Tryz.prog Tryz.f4 [] false w args ∧ laidMetH Tryz.prog Rows.fnPlateBackRow.laid w) ∧ sizedMet enc Tryz.prog Tryz.f4 (OpenSpec.ofChange Rows.fnPlateBackSpec) false w args)
      (Rows.fnPlateBackSpec.post enc Tryz.prog Tryz.f4 false true false false) := by
  refine returns_and_shaped (C := Tryz.checked) (X := fun w _ => laidMetH Tryz.prog Rows.fnPlateBackRow.laid w) (fun _ _ _ hh h => h.of_heap hh) own started (by kernel_rfl) Tryz.func4
    (ChangeSpec.witness_shaped (enc := enc) (C := Tryz.checked) (os := os) (X := fun w _ => laidMetH Tryz.prog Rows.fnPlateBackRow.laid w) false (World.laidAll Tryz.prog os listAll) #[.slice none 0 0] 8 (World.laidAll_os _ _ _) (shaped_all os _) (by kernel_rfl) (by kernel_rfl) (by kernel_rfl) (met_all os _)) ?_
  intro W base args ds gs before hval0 hW hL hsh
  have hval : ∀ (j : Nat) t v, Tryz.f4.params[j]? = some t → args[j]? = some v → Value.okWide Tryz.prog W .any base t v := hval0
  have hW' := hW
  obtain ⟨p, q, hA0, hV, rfl, hfz, hnd⟩ := hW
  have hA : DataW.TrodAll enc Tryz.prog W 0 (fun _ => true) true Tryz.f4.params.toList args.toList ds p := hA0
  rw [Tryz.params4] at hA hval
  obtain ⟨v0, vs0, d0, ds0, p0, q0, hargs, rfl, rfl, h0, r0⟩ := trodAll_cons hA
  obtain ⟨rfl, rfl, rfl⟩ := trodAll_nil r0
  obtain rfl : args = #[v0] := by cases args; simp_all
  obtain ⟨rfl, rfl⟩ := trodVars_none hV
  have htab := all_of_laid hL hsh
  have k0 := h0
  have lt0 : ∀ x ∈ p0, x.block < W.heap.size := by obtain ⟨m, hm⟩ := k0; exact DataW.trod_lt m _ _ _ hm
  obtain ⟨a0, len0, cap0, rfl⟩ := okWide_slice Tryz.underlying31 (hval 0 31 v0 rfl rfl)
  obtain ⟨z0, w0⟩ : ∃ zs, IsRow .u8 W a0 len0 cap0 zs := by
    obtain ⟨fuel, hf⟩ := h0
    rcases open_ints Tryz.underlying31 Tryz.underlying5 (by kernel_rfl) hf with ⟨hcs, _⟩ | ⟨x, l, c, zs, hcs, _, hl, hm, hz, _, hcell, hwz⟩
    · simp [Value.cells] at hcs
      obtain ⟨rfl, rfl, rfl⟩ := hcs
      exact ⟨[], .inl ⟨rfl, rfl, rfl, rfl⟩⟩
    · simp [Value.cells] at hcs
      obtain ⟨rfl, rfl, rfl⟩ := hcs
      exact ⟨zs, .inr ⟨_, rfl, hl, hm, by simpa using hz, hcell, hwz⟩⟩
  clear hA0 hval0
  refine (plateBack_walk W a0 len0 cap0 z0 w0 htab).mono fun e W' ⟨he, bel⟩ => ?_
  subst he
  exact ⟨_, rfl, _, _, _, [], _, [], hW', trodAll_mk1 (shut_bool Tryz.underlying4 _), (trodAll_cons_mk (Below.trod laidOut (by kernel_rfl) (of_decide_eq_true (by kernel_rfl)) k0 bel lt0) trodAll_mk0), rfl, bel.frame _, fun h => by cases h⟩

theorem fnPlateBack_said : Rows.FnPlateBackSaid :=
  OpenClaim.holds_of_wide 4 Tryz.f4 rfl rfl rfl rfl rfl rfl rfl ⟨rfl, rfl, rfl, rfl, rfl⟩ rfl rfl rfl rfl rfl (by kernel_rfl) Tryz.func4 (by kernel_rfl)
    (of_decide_eq_true (by kernel_rfl)) (by unfold Func.isWrapper; first | (rw [if_pos (by decide +kernel)]; kernel_rfl) | (rw [if_neg (by decide +kernel)]; exact ⟨rfl, rfl⟩))
    (fun os started H enc _ => fnPlateBack_lifted os started H enc)

theorem fnPlateBack_plain (f : FuncId) (fn : Func) (hf : Tryz.pinned.checked.prog.funcNamed "loop.example/mortiser/laws.FnPlateBack" = some f) (hfn : Tryz.pinned.checked.prog.funcs[f]? = some fn) :
    true = Tryz.pinned.checked.prog.looks [] ∧ ∀ (j : Nat) t, fn.params[j]? = some t → Tryz.pinned.checked.prog.wantsStandIn t = false := by
  obtain rfl : f = 4 := Option.some.inj ((show Tryz.prog.funcNamed "loop.example/mortiser/laws.FnPlateBack" = some 4 by kernel_rfl).symm.trans hf) |>.symm
  obtain rfl : fn = Tryz.f4 := (Option.some.inj (Tryz.func4.symm.trans hfn)).symm
  refine ⟨by kernel_rfl, fun j t ht => ?_⟩
  rw [Tryz.params4] at ht
  have hm := Array.mem_of_getElem? ht
  simp only [List.mem_toArray, List.mem_cons, List.not_mem_nil, or_false] at hm
  subst hm
  exact (show Tryz.prog.wantsStandIn 31 = false by kernel_rfl)

/-- THE STATEMENT. -/
theorem fnPlateBack_card : Rows.FnPlateBackCardSaid :=
  Claim7.holds_tied_plain_at .later [] _ _ _ _ fnPlateBack_said (fun _ h => by cases h) (by kernel_rfl) (fun _ h => by cases h) fnPlateBack_row_tie rfl ⟨rfl, rfl⟩ (by kernel_rfl) rfl fnPlateBack_plain (by kernel_rfl)
end Go.Proofs.YthjnfjnnpabenaaGreatDoor
