/-
  OUR OWN TEXT. The law FnFitsMost, for every input: the call returns true, and each argument reads as it did. Texts of ours, joined, so that the claim keeps to its number of files. Conditions: none but the row's own.
-/
import Derived.Test.YtmdjhoknlplecaaGreatDoorDrawPlate
import Derived.Test.YtmdjhoknlplecaaGreatDoorRoundQ
import Derived.Deep.RegionHeld3
import Derived.Test.YtmdjhoknlplecaaGreatDoorDrawLoop
import Derived.RangeFuncNested
import Derived.Test.YtmdjhoknlplecaaGreatDoorEdgeK
import Derived.Test.YtmdjhoknlplecaaGreatDoorEqPts
import Derived.Test.YtmdjhoknlplecaaGreatDoorSEdge
import Derived.Test.YtmdjhoknlplecaaGreatDoorReader
import Derived.Test.YtmdjhoknlplecaaGreatDoorSOk
import Derived.Test.YtmdjhoknlplecaaGreatDoorEdgeS
import Derived.Test.YtmdjhoknlplecaaGreatDoorRings
import Derived.Test.YtmdjhoknlplecaaGreatDoorFree
import Derived.Test.YtmdjhoknlplecaaGreatDoorWhere
import Derived.Test.YtmdjhoknlplecaaGreatDoorPlateI
import Derived.Test.YtmdjhoknlplecaaGreatDoorMath
import Derived.Test.YtmdjhoknlplecaaGreatDoorBw
import Derived.WalkKit
import Derived.Deep.QuietTactic
import Derived.BigQuiet
import Derived.Test.YtmdjhoknlplecaaGreatDoorChecked
import Derived.LaidEql
import Derived.Stop.Asserts
import Derived.RowKitTokens
import Derived.Deep.RegionWith
import Derived.Below
import Derived.Test.YtmdjhoknlplecaaGreatDoorBoxes
import Derived.Test.YtmdjhoknlplecaaGreatDoorSHas
import Derived.Laws.EntriesVeiled
import Derived.Test.YtmdjhoknlplecaaGreatDoorGeoApart
namespace Go.Proofs.YtmdjhoknlplecaaGreatDoor
open Go.RowKit

theorem lies_set0 {b : Nat} {x y z : Value} {t : TypeId} {W : World} (h : Lies b #[x, y] t W) : Lies b #[z, y] t (W.setCell ⟨b, 0, none⟩ z) := by
  unfold Lies at h ⊢
  exact setCell_row h z
theorem blk_ne_own {W : World} {base g c n gh ch m : Nat} {l : List P2} {xs : List Value} (h : PtBlk W g c l n) (ho : W.ownsRow base 30 1 (.slice (some ⟨gh, 0, none⟩) m ch) m xs) : g ≠ gh := by
  rintro rfl
  obtain ⟨cur, hc, _⟩ := h
  rcases ho.2 with ⟨e, _⟩ | ⟨g', c', cur', e, hb, hg, _⟩
  · cases e
  · cases e; rw [hc] at hg; simp at hg
theorem LoopT.ok.lt {base : Nat} {W : World} {t : LoopT} (h : t.ok base W) : t.g < W.heap.size := by obtain ⟨_, _, _, _, _, _, h7⟩ := h; exact h7.lt
/-- What a drawn plate is. -/
def DrawnP (base r : Nat) (a : Option Addr) (len cap k : Nat) (w : World) (e : Ending) (w' : World) : Prop :=
  ∃ (o : LoopT) (hv : Value) (hs : List LoopT) (k' : Nat), e = .returned (.agg #[o.v, hv]) ∧ PlD base w' o hv hs ∧ (hs.length ≤ 3 ∧ Seat hv) ∧ k' ≤ k ∧ Rd w' r k' a len cap ∧ Only r w w'
set_option maxRecDepth 100000 in
set_option maxHeartbeats 8000000 in
theorem plate_any (k : Nat) (a : Option Addr) (len cap r : Nat) (w : World) (hk : k ≤ 600000) (R : Rd w r k a len cap) :
    Calls Tryz.prog 50 #[.pointer (some ⟨r, 0, none⟩)] w (DrawnP w.heap.size r a len cap (k + 200) w) := by
  obtain ⟨i0, hi0, hz0, hz1, hz2⟩ := info_parts Tryz.infoPts
  obtain ⟨j0, hj0, jz0, jz1, jz2⟩ := info_parts Tryz.infoPt
  have hlt := R.lt
  have P := (Only.refl r w).alloc (.cells #[.slice none 0 0, .slice none 0 0] 33)
  have Z : Lies w.heap.size #[.slice none 0 0, .slice none 0 0] 33 (w.alloc (.cells #[.slice none 0 0, .slice none 0 0] 33)) := Lies.new w _ _
  replace R := R.alloc (.cells #[.slice none 0 0, .slice none 0 0] 33)
  go_enter Tryz.func50, Tryz.ntmps50
  go_wp2_with fail
  refine (good_any k a len cap r _ (by omega) R).mono ?_
  clear R
  rintro e w1 ⟨⟨g, n, c, l⟩, hv, hs, k1, he, hD, ⟨hs2, hn7, hst⟩, hk1, R, O⟩
  obtain rfl : e = .returned (.agg #[.slice (some ⟨g, 0, none⟩) n c, hv]) := he
  obtain ⟨gh, ch, rfl⟩ : ∃ gh ch, hv = .slice (some ⟨gh, 0, none⟩) hs.length ch := own_seat hD.2.2.1 hst
  replace hD := hD.mono (base' := w.heap.size + 1) (by simp)
  replace P := P.trans O
  replace Z : Lies w.heap.size #[.slice none 0 0, .slice none 0 0] 33 w1 := keepO O Z (by omega)
  clear O
  have z1 := Z.lt
  have Bq : Below w1.heap.size w1 (w1.alloc (.cells #[.slice (some ⟨g, 0, none⟩) n c, .slice (some ⟨gh, 0, none⟩) hs.length ch] 33)) := (by repeat (first | exact bw_refl _ | assumption | apply bw_drewN | apply bw_drew | apply bw_alloc | refine bw_set ?_ (by simp) _))
  have Lp : Lies w1.heap.size #[.slice (some ⟨g, 0, none⟩) n c, .slice (some ⟨gh, 0, none⟩) hs.length ch] 33 (w1.alloc (.cells #[.slice (some ⟨g, 0, none⟩) n c, .slice (some ⟨gh, 0, none⟩) hs.length ch] 33)) := Lies.new w1 _ _
  have hgs : ∀ t ∈ hs, t.g < w1.heap.size := fun t ht => by obtain ⟨_, _, _, _, _, _, h7⟩ := hD.2.2.2 t ht; exact h7.lt
  have hgw : g < w1.heap.size := by obtain ⟨_, _, _, _, _, _, h7⟩ := hD.1; exact h7.lt
  have hghw : gh < w1.heap.size := (hD.2.2.1.lt gh rfl).2
  have hghb : w.heap.size + 1 ≤ gh := (hD.2.2.1.lt gh rfl).1
  replace R := R.below Bq
  replace P := P.trans (Only.of_below Bq)
  replace Z := Z.below Bq
  replace hD := hD.below Bq
  clear Bq
  go_wp2_with fail
  refine (pick_rd 24 k1 a len cap r _ (by omega) (by omega) R).mono ?_
  clear R
  rintro e w2 ⟨q, rfl, qa, qb, R, O⟩
  replace P := P.trans O
  replace Z : Lies w.heap.size #[.slice none 0 0, .slice none 0 0] 33 w2 := keepO O Z (by omega)
  replace Lp : Lies w1.heap.size #[.slice (some ⟨g, 0, none⟩) n c, .slice (some ⟨gh, 0, none⟩) hs.length ch] 33 w2 := keepO O Lp (by omega)
  replace hD := hD.only O (by omega)
  clear O
  obtain ⟨d0, d1, f0, f1⟩ := lies2 Lp
  obtain ⟨y0, y1, yf0, yf1⟩ := lies2 Z
  have z2 := Lp.lt
  have hmx : Tryz.prog.follows .mixedOrders = true := by kernel_rfl
  have hmax : hs.length + 1 ≤ maxLen := by simp [maxLen]; omega
  have hq : q = 0 ∨ q = 1 ∨ q = 2 ∨ (q ≠ 0 ∧ q ≠ 1 ∧ q ≠ 2) := by omega
  rcases hq with rfl | rfl | rfl | ⟨q0, q1, q2⟩
  · go_wp2_with fail
    refine (loop_any (k1 + 1) a len cap r _ (by omega) R).mono ?_
    clear R
    rintro e w3 ⟨g3, n3, c3, l3, k3, rfl, h3, h7, hl3, hc3, hm3, hb3, hB3, hk3, R, O⟩
    replace P := P.trans O
    replace Z : Lies w.heap.size #[.slice none 0 0, .slice none 0 0] 33 w3 := keepO O Z (by omega)
    replace Lp : Lies w1.heap.size #[.slice (some ⟨g, 0, none⟩) n c, .slice (some ⟨gh, 0, none⟩) hs.length ch] 33 w3 := keepO O Lp (by omega)
    replace hD := hD.only O (by omega)
    clear O d0 d1 f0 f1 y0 y1 yf0 yf1
    obtain ⟨d0, d1, f0, f1⟩ := lies2 Lp
    obtain ⟨y0, y1, yf0, yf1⟩ := lies2 Z
    have O4 : Only w1.heap.size w3 (w3.setCell ⟨w1.heap.size, 0, none⟩ (.slice (some ⟨g3, 0, none⟩) n3 c3)) := (Only.refl w1.heap.size w3).set (.inl rfl) _
    have hD4 : PlD (w.heap.size + 1) (w3.setCell ⟨w1.heap.size, 0, none⟩ (.slice (some ⟨g3, 0, none⟩) n3 c3)) ⟨g3, n3, c3, l3⟩ (.slice (some ⟨gh, 0, none⟩) hs.length ch) hs :=
      ⟨LoopT.ok.only' ⟨h3, by show n3 ≤ 8; omega, hl3, hc3, hm3, by show w.heap.size + 1 ≤ g3; omega, hB3⟩ O4 (by show g3 ≠ _; omega), hD.2.1, own_only' hD.2.2.1 O4 (fun e => by have e' : gh = w1.heap.size := Option.some.inj e; omega), fun t ht => (hD.2.2.2 t ht).only' O4 (Nat.ne_of_lt (hgs t ht))⟩
    have R4 := R.set (p := ⟨w1.heap.size, 0, none⟩) (by show r < w1.heap.size; omega) (.slice (some ⟨g3, 0, none⟩) n3 c3)
    have P4 := P.set (p := ⟨w1.heap.size, 0, none⟩) (.inr (by show w.heap.size ≤ w1.heap.size; omega)) (.slice (some ⟨g3, 0, none⟩) n3 c3)
    have Z4 : Lies w.heap.size #[.slice none 0 0, .slice none 0 0] 33 (w3.setCell ⟨w1.heap.size, 0, none⟩ (.slice (some ⟨g3, 0, none⟩) n3 c3)) := set_oth Z (by omega)
    have Z5 := setB2 (u0 := .slice (some ⟨g3, 0, none⟩) n3 c3) (u1 := .slice (some ⟨gh, 0, none⟩) hs.length ch) Z4
    obtain ⟨v0, v1, _, _⟩ := lies2 Z5
    go_wp2_with fail
    refine bodyPost_ret (v := .agg #[.slice (some ⟨g3, 0, none⟩) n3 c3, .slice (some ⟨gh, 0, none⟩) hs.length ch]) (by simp [results, Tryz.results50, go_sem, v0, v1]) rfl ?_
    generalize (w3.setCell ⟨w1.heap.size, 0, none⟩ (.slice (some ⟨g3, 0, none⟩) n3 c3)) = x4 at *
    have hD5 := (hD4.only ((Only.refl w.heap.size x4).set (p := ⟨w.heap.size, 0, none⟩) (.inl rfl) (.slice (some ⟨g3, 0, none⟩) n3 c3)) (by omega)).only ((Only.refl w.heap.size _).set (p := ⟨w.heap.size, 1, none⟩) (.inl rfl) (.slice (some ⟨gh, 0, none⟩) hs.length ch)) (by omega)
    exact ⟨⟨g3, n3, c3, l3⟩, _, hs, k3, rfl, hD5.mono (by omega), ⟨by omega, ⟨_, _, _, rfl⟩⟩, by omega, (R4.set (by show r < w.heap.size; omega) _).set (by show r < w.heap.size; omega) _, (P4.set (.inr (by show w.heap.size ≤ w.heap.size; omega)) _).set (.inr (by show w.heap.size ≤ w.heap.size; omega)) _⟩
  · have hX := loop_any (k1 + 1) a len cap r w2.drew (by omega) R.drew
    have PD := P.drew
    have ZD : Lies w.heap.size #[.slice none 0 0, .slice none 0 0] 33 w2.drew := Z
    have LpD : Lies w1.heap.size #[.slice (some ⟨g, 0, none⟩) n c, .slice (some ⟨gh, 0, none⟩) hs.length ch] 33 w2.drew := Lp
    have hDD : PlD (w.heap.size + 1) w2.drew ⟨g, n, c, l⟩ (.slice (some ⟨gh, 0, none⟩) hs.length ch) hs := hD.below (bw_drew (bw_refl _))
    go_wp2_with fail
    refine wp_region_held (S := fun _ => True) hmx ?_
    refine wpAnyH_take (i := 0) (v := .pointer (some ⟨w1.heap.size, 1, none⟩)) rfl (by kernel_rfl) (by kernel_rfl) (by kernel_rfl) (fun _ _ _ h => h) (Or.inl ⟨by rfl, by intro w' _; go_simp⟩) trivial ?_
    refine wpAnyH_take (i := 2) (v := .pointer (some ⟨r, 0, none⟩)) rfl (by kernel_rfl) (by kernel_rfl) (by kernel_rfl) (fun _ _ _ h => h) (Or.inl ⟨by rfl, by intro w' _; go_simp⟩) trivial ?_
    refine wpAnyH_all (rs := [1, 3]) (by kernel_rfl) (by simp) ?_
    intro i hi
    have hi' : i = 1 ∨ i = 3 := by simpa using hi
    clear hi
    rcases hi' with rfl | rfl
    · skip
      refine YieldsIf.wpOp (S := fun w' => w' = w2.drew) (v := .slice (some ⟨gh, 0, none⟩) hs.length ch) rfl (Or.inl ⟨by rfl, by rintro w' rfl; go_simp⟩) rfl ⟨trivial, ?_⟩
      refine wpAnyH_all (rs := [3]) (by kernel_rfl) (by simp) ?_
      intro i hi
      obtain rfl : i = 3 := by simpa using hi
      refine wpOp_now rfl (by rfl) ?_
      go_simp
      refine hX.mono ?_
      rintro e w3 ⟨g3, n3, c3, l3, k3, rfl, h3, h7, hl3, hc3, hm3, hb3, hB3, hk3, R3, O3⟩
      have P3 := PD.trans O3
      have Z3 : Lies w.heap.size #[.slice none 0 0, .slice none 0 0] 33 w3 := keepO O3 ZD (by omega)
      have Lp3 : Lies w1.heap.size #[.slice (some ⟨g, 0, none⟩) n c, .slice (some ⟨gh, 0, none⟩) hs.length ch] 33 w3 := keepO O3 LpD (by omega)
      have hD3 := hDD.only O3 (by omega)
      obtain ⟨d03, d13, f03, f13⟩ := lies2 Lp3
      have zz3 := Lp3.lt
      have zr3 := R3.lt
      have zg3 := hB3.lt
      have hb3' : w2.heap.size ≤ g3 := hb3
      refine wpAnyH_all (rs := [4]) (by kernel_rfl) (by simp) ?_
      intro i hi
      obtain rfl : i = 4 := by simpa using hi
      refine wpOp_now rfl (by rfl) ?_
      go_simp
      refine wpAnyH_all (rs := [5]) (by kernel_rfl) (by simp) ?_
      intro i hi
      obtain rfl : i = 5 := by simpa using hi
      refine wpOp_now rfl (by rfl) ?_
      refine wp_append_lies _ _ _ _ (by rfl) (w.heap.size + 1) 30 i0 _ 1 24 Tryz.underlying31 hi0 hz0 hz1 hz2 rfl (by omega) _ hs.length _ (by rfl) (hD3.2.2.1.alloc _) ⟨w3.heap.size, 0, none⟩ 1 1 [.slice (some ⟨g3, 0, none⟩) n3 c3] (by rfl) (by rfl) (World.news_of_block (cs := #[.slice (some ⟨g3, 0, none⟩) n3 c3]) (t := 30) (fr := (0, 0)) (heap_alloc_new w3 _)) (by simp [Value.oneCell']) (by omega) hmax (by omega) (by simp; omega) (w3.heap.size + 1) (by simp) ?_
      intro gg cg w5 hown5 hgr5 hat5 hlt5
      refine ⟨trivial, ?_⟩
      simp only [Act.put, List.setIfInBounds_toArray]
      refine wpAnyH_take (i := 6) (v := .pointer (some ⟨w1.heap.size, 1, none⟩)) rfl (by kernel_rfl) (by kernel_rfl) (by kernel_rfl) (fun _ _ _ h => h) (Or.inl ⟨by rfl, by intro w' _; go_simp⟩) trivial ?_
      refine wpAnyH_all (rs := [7]) (by kernel_rfl) (by simp) ?_
      intro i hi
      obtain rfl : i = 7 := by simpa using hi
      have Bq : Below w3.heap.size w3 (w3.alloc (.cells #[.slice (some ⟨g3, 0, none⟩) n3 c3] 30)) := (by repeat (first | exact bw_refl _ | assumption | apply bw_drewN | apply bw_drew | apply bw_alloc | refine bw_set ?_ (by simp) _))
      have Lp5 := lies_grown (Lp3.alloc _) hgr5 (fun e => by have e' : w1.heap.size = gh := Option.some.inj e; omega)
      have Z5' := lies_grown (Z3.alloc _) hgr5 (fun e => by have e' : w.heap.size = gh := Option.some.inj e; omega)
      obtain ⟨d05, d15, f05, f15⟩ := lies2 Lp5
      refine wpOp_now rfl (by rfl) ?_
      go_simp
      refine wpAnyH_done (by kernel_rfl) ?_ _
      simp only [Exit.then, Exit.inBlock]
      have hne3 : ∀ t : LoopT, t.ok (w.heap.size + 1) w3 → some t.g ≠ Value.ownBlock (.slice (some ⟨gh, 0, none⟩) hs.length ch) := fun t ht e => by obtain ⟨_, _, _, _, _, _, h7⟩ := ht; exact blk_ne_own h7 hD3.2.2.1 (Option.some.inj e)
      have hggn : gg ≠ w1.heap.size := hat5.elim (fun e => by have e' : gh = gg := Option.some.inj e; omega) (fun e => by omega)
      have O5 : Only w1.heap.size w5 (w5.setCell ⟨w1.heap.size, 1, none⟩ (.slice (some ⟨gg, 0, none⟩) (hs.length + 1) cg)) := (Only.refl w1.heap.size w5).set (.inl rfl) _
      have keep5 : ∀ t : LoopT, t.ok (w.heap.size + 1) w3 → t.g ≠ w1.heap.size → t.ok (w.heap.size + 1) (w5.setCell ⟨w1.heap.size, 1, none⟩ (.slice (some ⟨gg, 0, none⟩) (hs.length + 1) cg)) := fun t ht hne => ((ht.below Bq).grown hgr5 (hne3 t ht)).only' O5 hne
      have hr5 := own_only' hown5 O5 (fun e => hggn (Option.some.inj e))
      have hD4 : PlD (w.heap.size + 1) (w5.setCell ⟨w1.heap.size, 1, none⟩ (.slice (some ⟨gg, 0, none⟩) (hs.length + 1) cg)) ⟨g, n, c, l⟩ (.slice (some ⟨gg, 0, none⟩) (hs.length + 1) cg) (hs ++ [(⟨g3, n3, c3, l3⟩ : LoopT)]) := by
        refine ⟨keep5 _ hD3.1 (by show g ≠ _; omega), by simp; omega, by simpa [LoopT.v] using hr5, fun t ht => ?_⟩
        rcases List.mem_append.1 ht with h | h
        · exact keep5 t (hD3.2.2.2 t h) (Nat.ne_of_lt (hgs t h))
        · obtain rfl : t = ⟨g3, n3, c3, l3⟩ := by simpa using h
          exact keep5 _ ⟨h3, by show n3 ≤ 8; omega, hl3, hc3, hm3, by show w.heap.size + 1 ≤ g3; omega, hB3⟩ (by show g3 ≠ _; omega)
      have R4 := ((R3.below Bq).grown hgr5 (fun j e => by have e' : gh = j := Option.some.inj e; omega)).set (p := ⟨w1.heap.size, 1, none⟩) (by show r < w1.heap.size; omega) (.slice (some ⟨gg, 0, none⟩) (hs.length + 1) cg)
      have P4 := ((P3.trans (Only.of_below Bq)).grown hgr5 (fun j e => by have e' : gh = j := Option.some.inj e; omega)).set (p := ⟨w1.heap.size, 1, none⟩) (.inr (by show w.heap.size ≤ w1.heap.size; omega)) (.slice (some ⟨gg, 0, none⟩) (hs.length + 1) cg)
      have L4 := lies_set1 (z := .slice (some ⟨gg, 0, none⟩) (hs.length + 1) cg) Lp5
      have Z4 : Lies w.heap.size #[.slice none 0 0, .slice none 0 0] 33 (w5.setCell ⟨w1.heap.size, 1, none⟩ (.slice (some ⟨gg, 0, none⟩) (hs.length + 1) cg)) := set_oth Z5' (by omega)
      clear hown5 hgr5 hat5 hlt5 keep5 hr5 O5 hne3 hD3 Lp3 Z3 R3 P3 Lp5 Z5' d03 d13 f03 f13 d05 d15 f05 f15 Bq hB3 O3 hX PD ZD LpD hDD
      generalize w5.setCell ⟨w1.heap.size, 1, none⟩ (.slice (some ⟨gg, 0, none⟩) (hs.length + 1) cg) = x4 at *
      clear y0 y1 yf0 yf1 d0 d1 f0 f1
      obtain ⟨d0, d1, f0, f1⟩ := lies2 L4
      obtain ⟨y0, y1, yf0, yf1⟩ := lies2 Z4
      have Z5 := setB2 (u0 := .slice (some ⟨g, 0, none⟩) n c) (u1 := .slice (some ⟨gg, 0, none⟩) (hs.length + 1) cg) Z4
      obtain ⟨v0, v1, _, _⟩ := lies2 Z5
      go_wp2_with fail
      refine bodyPost_ret (v := .agg #[.slice (some ⟨g, 0, none⟩) n c, .slice (some ⟨gg, 0, none⟩) (hs.length + 1) cg]) (by simp [results, Tryz.results50, go_sem, v0, v1]) rfl ?_
      have hD5 := (hD4.only ((Only.refl w.heap.size x4).set (p := ⟨w.heap.size, 0, none⟩) (.inl rfl) (.slice (some ⟨g, 0, none⟩) n c)) (by omega)).only ((Only.refl w.heap.size _).set (p := ⟨w.heap.size, 1, none⟩) (.inl rfl) (.slice (some ⟨gg, 0, none⟩) (hs.length + 1) cg)) (by omega)
      exact ⟨⟨g, n, c, l⟩, _, hs ++ [(⟨g3, n3, c3, l3⟩ : LoopT)], k3, rfl, hD5.mono (by omega), ⟨by simp; try omega, ⟨_, _, _, rfl⟩⟩, by omega, (R4.set (by show r < w.heap.size; omega) _).set (by show r < w.heap.size; omega) _, (P4.set (.inr (by show w.heap.size ≤ w.heap.size; omega)) _).set (.inr (by show w.heap.size ≤ w.heap.size; omega)) _⟩
    · skip
      refine wpOp_now rfl (by rfl) ?_
      go_simp
      refine hX.mono ?_
      rintro e w3 ⟨g3, n3, c3, l3, k3, rfl, h3, h7, hl3, hc3, hm3, hb3, hB3, hk3, R3, O3⟩
      have P3 := PD.trans O3
      have Z3 : Lies w.heap.size #[.slice none 0 0, .slice none 0 0] 33 w3 := keepO O3 ZD (by omega)
      have Lp3 : Lies w1.heap.size #[.slice (some ⟨g, 0, none⟩) n c, .slice (some ⟨gh, 0, none⟩) hs.length ch] 33 w3 := keepO O3 LpD (by omega)
      have hD3 := hDD.only O3 (by omega)
      obtain ⟨d03, d13, f03, f13⟩ := lies2 Lp3
      have zz3 := Lp3.lt
      have zr3 := R3.lt
      have zg3 := hB3.lt
      have hb3' : w2.heap.size ≤ g3 := hb3
      refine wpAnyH_all (rs := [1, 4]) (by kernel_rfl) (by simp) ?_
      intro i hi
      have hi' : i = 1 ∨ i = 4 := by simpa using hi
      clear hi
      rcases hi' with rfl | rfl
      · skip
        refine YieldsIf.wpOp (S := fun w' => w' = w3) (v := .slice (some ⟨gh, 0, none⟩) hs.length ch) rfl (Or.inl ⟨by rfl, by rintro w' rfl; go_simp⟩) rfl ⟨trivial, ?_⟩
        refine wpAnyH_all (rs := [4]) (by kernel_rfl) (by simp) ?_
        intro i hi
        obtain rfl : i = 4 := by simpa using hi
        refine wpOp_now rfl (by rfl) ?_
        go_simp
        refine wpAnyH_all (rs := [5]) (by kernel_rfl) (by simp) ?_
        intro i hi
        obtain rfl : i = 5 := by simpa using hi
        refine wpOp_now rfl (by rfl) ?_
        refine wp_append_lies _ _ _ _ (by rfl) (w.heap.size + 1) 30 i0 _ 1 24 Tryz.underlying31 hi0 hz0 hz1 hz2 rfl (by omega) _ hs.length _ (by rfl) (hD3.2.2.1.alloc _) ⟨w3.heap.size, 0, none⟩ 1 1 [.slice (some ⟨g3, 0, none⟩) n3 c3] (by rfl) (by rfl) (World.news_of_block (cs := #[.slice (some ⟨g3, 0, none⟩) n3 c3]) (t := 30) (fr := (0, 0)) (heap_alloc_new w3 _)) (by simp [Value.oneCell']) (by omega) hmax (by omega) (by simp; omega) (w3.heap.size + 1) (by simp) ?_
        intro gg cg w5 hown5 hgr5 hat5 hlt5
        refine ⟨trivial, ?_⟩
        simp only [Act.put, List.setIfInBounds_toArray]
        refine wpAnyH_take (i := 6) (v := .pointer (some ⟨w1.heap.size, 1, none⟩)) rfl (by kernel_rfl) (by kernel_rfl) (by kernel_rfl) (fun _ _ _ h => h) (Or.inl ⟨by rfl, by intro w' _; go_simp⟩) trivial ?_
        refine wpAnyH_all (rs := [7]) (by kernel_rfl) (by simp) ?_
        intro i hi
        obtain rfl : i = 7 := by simpa using hi
        have Bq : Below w3.heap.size w3 (w3.alloc (.cells #[.slice (some ⟨g3, 0, none⟩) n3 c3] 30)) := (by repeat (first | exact bw_refl _ | assumption | apply bw_drewN | apply bw_drew | apply bw_alloc | refine bw_set ?_ (by simp) _))
        have Lp5 := lies_grown (Lp3.alloc _) hgr5 (fun e => by have e' : w1.heap.size = gh := Option.some.inj e; omega)
        have Z5' := lies_grown (Z3.alloc _) hgr5 (fun e => by have e' : w.heap.size = gh := Option.some.inj e; omega)
        obtain ⟨d05, d15, f05, f15⟩ := lies2 Lp5
        refine wpOp_now rfl (by rfl) ?_
        go_simp
        refine wpAnyH_done (by kernel_rfl) ?_ _
        simp only [Exit.then, Exit.inBlock]
        have hne3 : ∀ t : LoopT, t.ok (w.heap.size + 1) w3 → some t.g ≠ Value.ownBlock (.slice (some ⟨gh, 0, none⟩) hs.length ch) := fun t ht e => by obtain ⟨_, _, _, _, _, _, h7⟩ := ht; exact blk_ne_own h7 hD3.2.2.1 (Option.some.inj e)
        have hggn : gg ≠ w1.heap.size := hat5.elim (fun e => by have e' : gh = gg := Option.some.inj e; omega) (fun e => by omega)
        have O5 : Only w1.heap.size w5 (w5.setCell ⟨w1.heap.size, 1, none⟩ (.slice (some ⟨gg, 0, none⟩) (hs.length + 1) cg)) := (Only.refl w1.heap.size w5).set (.inl rfl) _
        have keep5 : ∀ t : LoopT, t.ok (w.heap.size + 1) w3 → t.g ≠ w1.heap.size → t.ok (w.heap.size + 1) (w5.setCell ⟨w1.heap.size, 1, none⟩ (.slice (some ⟨gg, 0, none⟩) (hs.length + 1) cg)) := fun t ht hne => ((ht.below Bq).grown hgr5 (hne3 t ht)).only' O5 hne
        have hr5 := own_only' hown5 O5 (fun e => hggn (Option.some.inj e))
        have hD4 : PlD (w.heap.size + 1) (w5.setCell ⟨w1.heap.size, 1, none⟩ (.slice (some ⟨gg, 0, none⟩) (hs.length + 1) cg)) ⟨g, n, c, l⟩ (.slice (some ⟨gg, 0, none⟩) (hs.length + 1) cg) (hs ++ [(⟨g3, n3, c3, l3⟩ : LoopT)]) := by
          refine ⟨keep5 _ hD3.1 (by show g ≠ _; omega), by simp; omega, by simpa [LoopT.v] using hr5, fun t ht => ?_⟩
          rcases List.mem_append.1 ht with h | h
          · exact keep5 t (hD3.2.2.2 t h) (Nat.ne_of_lt (hgs t h))
          · obtain rfl : t = ⟨g3, n3, c3, l3⟩ := by simpa using h
            exact keep5 _ ⟨h3, by show n3 ≤ 8; omega, hl3, hc3, hm3, by show w.heap.size + 1 ≤ g3; omega, hB3⟩ (by show g3 ≠ _; omega)
        have R4 := ((R3.below Bq).grown hgr5 (fun j e => by have e' : gh = j := Option.some.inj e; omega)).set (p := ⟨w1.heap.size, 1, none⟩) (by show r < w1.heap.size; omega) (.slice (some ⟨gg, 0, none⟩) (hs.length + 1) cg)
        have P4 := ((P3.trans (Only.of_below Bq)).grown hgr5 (fun j e => by have e' : gh = j := Option.some.inj e; omega)).set (p := ⟨w1.heap.size, 1, none⟩) (.inr (by show w.heap.size ≤ w1.heap.size; omega)) (.slice (some ⟨gg, 0, none⟩) (hs.length + 1) cg)
        have L4 := lies_set1 (z := .slice (some ⟨gg, 0, none⟩) (hs.length + 1) cg) Lp5
        have Z4 : Lies w.heap.size #[.slice none 0 0, .slice none 0 0] 33 (w5.setCell ⟨w1.heap.size, 1, none⟩ (.slice (some ⟨gg, 0, none⟩) (hs.length + 1) cg)) := set_oth Z5' (by omega)
        clear hown5 hgr5 hat5 hlt5 keep5 hr5 O5 hne3 hD3 Lp3 Z3 R3 P3 Lp5 Z5' d03 d13 f03 f13 d05 d15 f05 f15 Bq hB3 O3 hX PD ZD LpD hDD
        generalize w5.setCell ⟨w1.heap.size, 1, none⟩ (.slice (some ⟨gg, 0, none⟩) (hs.length + 1) cg) = x4 at *
        clear y0 y1 yf0 yf1 d0 d1 f0 f1
        obtain ⟨d0, d1, f0, f1⟩ := lies2 L4
        obtain ⟨y0, y1, yf0, yf1⟩ := lies2 Z4
        have Z5 := setB2 (u0 := .slice (some ⟨g, 0, none⟩) n c) (u1 := .slice (some ⟨gg, 0, none⟩) (hs.length + 1) cg) Z4
        obtain ⟨v0, v1, _, _⟩ := lies2 Z5
        go_wp2_with fail
        refine bodyPost_ret (v := .agg #[.slice (some ⟨g, 0, none⟩) n c, .slice (some ⟨gg, 0, none⟩) (hs.length + 1) cg]) (by simp [results, Tryz.results50, go_sem, v0, v1]) rfl ?_
        have hD5 := (hD4.only ((Only.refl w.heap.size x4).set (p := ⟨w.heap.size, 0, none⟩) (.inl rfl) (.slice (some ⟨g, 0, none⟩) n c)) (by omega)).only ((Only.refl w.heap.size _).set (p := ⟨w.heap.size, 1, none⟩) (.inl rfl) (.slice (some ⟨gg, 0, none⟩) (hs.length + 1) cg)) (by omega)
        exact ⟨⟨g, n, c, l⟩, _, hs ++ [(⟨g3, n3, c3, l3⟩ : LoopT)], k3, rfl, hD5.mono (by omega), ⟨by simp; try omega, ⟨_, _, _, rfl⟩⟩, by omega, (R4.set (by show r < w.heap.size; omega) _).set (by show r < w.heap.size; omega) _, (P4.set (.inr (by show w.heap.size ≤ w.heap.size; omega)) _).set (.inr (by show w.heap.size ≤ w.heap.size; omega)) _⟩
      · skip
        refine wpOp_now rfl (by rfl) ?_
        go_simp
        refine wpAnyH_all (rs := [1]) (by kernel_rfl) (by simp) ?_
        intro i hi
        obtain rfl : i = 1 := by simpa using hi
        refine YieldsIf.wpOp (S := fun w' => w' = w3.alloc (.cells #[.slice (some ⟨g3, 0, none⟩) n3 c3] 30)) (v := .slice (some ⟨gh, 0, none⟩) hs.length ch) rfl (Or.inl ⟨by rfl, by rintro w' rfl; go_simp⟩) rfl ⟨trivial, ?_⟩
        refine wpAnyH_all (rs := [5]) (by kernel_rfl) (by simp) ?_
        intro i hi
        obtain rfl : i = 5 := by simpa using hi
        refine wpOp_now rfl (by rfl) ?_
        refine wp_append_lies _ _ _ _ (by rfl) (w.heap.size + 1) 30 i0 _ 1 24 Tryz.underlying31 hi0 hz0 hz1 hz2 rfl (by omega) _ hs.length _ (by rfl) (hD3.2.2.1.alloc _) ⟨w3.heap.size, 0, none⟩ 1 1 [.slice (some ⟨g3, 0, none⟩) n3 c3] (by rfl) (by rfl) (World.news_of_block (cs := #[.slice (some ⟨g3, 0, none⟩) n3 c3]) (t := 30) (fr := (0, 0)) (heap_alloc_new w3 _)) (by simp [Value.oneCell']) (by omega) hmax (by omega) (by simp; omega) (w3.heap.size + 1) (by simp) ?_
        intro gg cg w5 hown5 hgr5 hat5 hlt5
        refine ⟨trivial, ?_⟩
        simp only [Act.put, List.setIfInBounds_toArray]
        refine wpAnyH_take (i := 6) (v := .pointer (some ⟨w1.heap.size, 1, none⟩)) rfl (by kernel_rfl) (by kernel_rfl) (by kernel_rfl) (fun _ _ _ h => h) (Or.inl ⟨by rfl, by intro w' _; go_simp⟩) trivial ?_
        refine wpAnyH_all (rs := [7]) (by kernel_rfl) (by simp) ?_
        intro i hi
        obtain rfl : i = 7 := by simpa using hi
        have Bq : Below w3.heap.size w3 (w3.alloc (.cells #[.slice (some ⟨g3, 0, none⟩) n3 c3] 30)) := (by repeat (first | exact bw_refl _ | assumption | apply bw_drewN | apply bw_drew | apply bw_alloc | refine bw_set ?_ (by simp) _))
        have Lp5 := lies_grown (Lp3.alloc _) hgr5 (fun e => by have e' : w1.heap.size = gh := Option.some.inj e; omega)
        have Z5' := lies_grown (Z3.alloc _) hgr5 (fun e => by have e' : w.heap.size = gh := Option.some.inj e; omega)
        obtain ⟨d05, d15, f05, f15⟩ := lies2 Lp5
        refine wpOp_now rfl (by rfl) ?_
        go_simp
        refine wpAnyH_done (by kernel_rfl) ?_ _
        simp only [Exit.then, Exit.inBlock]
        have hne3 : ∀ t : LoopT, t.ok (w.heap.size + 1) w3 → some t.g ≠ Value.ownBlock (.slice (some ⟨gh, 0, none⟩) hs.length ch) := fun t ht e => by obtain ⟨_, _, _, _, _, _, h7⟩ := ht; exact blk_ne_own h7 hD3.2.2.1 (Option.some.inj e)
        have hggn : gg ≠ w1.heap.size := hat5.elim (fun e => by have e' : gh = gg := Option.some.inj e; omega) (fun e => by omega)
        have O5 : Only w1.heap.size w5 (w5.setCell ⟨w1.heap.size, 1, none⟩ (.slice (some ⟨gg, 0, none⟩) (hs.length + 1) cg)) := (Only.refl w1.heap.size w5).set (.inl rfl) _
        have keep5 : ∀ t : LoopT, t.ok (w.heap.size + 1) w3 → t.g ≠ w1.heap.size → t.ok (w.heap.size + 1) (w5.setCell ⟨w1.heap.size, 1, none⟩ (.slice (some ⟨gg, 0, none⟩) (hs.length + 1) cg)) := fun t ht hne => ((ht.below Bq).grown hgr5 (hne3 t ht)).only' O5 hne
        have hr5 := own_only' hown5 O5 (fun e => hggn (Option.some.inj e))
        have hD4 : PlD (w.heap.size + 1) (w5.setCell ⟨w1.heap.size, 1, none⟩ (.slice (some ⟨gg, 0, none⟩) (hs.length + 1) cg)) ⟨g, n, c, l⟩ (.slice (some ⟨gg, 0, none⟩) (hs.length + 1) cg) (hs ++ [(⟨g3, n3, c3, l3⟩ : LoopT)]) := by
          refine ⟨keep5 _ hD3.1 (by show g ≠ _; omega), by simp; omega, by simpa [LoopT.v] using hr5, fun t ht => ?_⟩
          rcases List.mem_append.1 ht with h | h
          · exact keep5 t (hD3.2.2.2 t h) (Nat.ne_of_lt (hgs t h))
          · obtain rfl : t = ⟨g3, n3, c3, l3⟩ := by simpa using h
            exact keep5 _ ⟨h3, by show n3 ≤ 8; omega, hl3, hc3, hm3, by show w.heap.size + 1 ≤ g3; omega, hB3⟩ (by show g3 ≠ _; omega)
        have R4 := ((R3.below Bq).grown hgr5 (fun j e => by have e' : gh = j := Option.some.inj e; omega)).set (p := ⟨w1.heap.size, 1, none⟩) (by show r < w1.heap.size; omega) (.slice (some ⟨gg, 0, none⟩) (hs.length + 1) cg)
        have P4 := ((P3.trans (Only.of_below Bq)).grown hgr5 (fun j e => by have e' : gh = j := Option.some.inj e; omega)).set (p := ⟨w1.heap.size, 1, none⟩) (.inr (by show w.heap.size ≤ w1.heap.size; omega)) (.slice (some ⟨gg, 0, none⟩) (hs.length + 1) cg)
        have L4 := lies_set1 (z := .slice (some ⟨gg, 0, none⟩) (hs.length + 1) cg) Lp5
        have Z4 : Lies w.heap.size #[.slice none 0 0, .slice none 0 0] 33 (w5.setCell ⟨w1.heap.size, 1, none⟩ (.slice (some ⟨gg, 0, none⟩) (hs.length + 1) cg)) := set_oth Z5' (by omega)
        clear hown5 hgr5 hat5 hlt5 keep5 hr5 O5 hne3 hD3 Lp3 Z3 R3 P3 Lp5 Z5' d03 d13 f03 f13 d05 d15 f05 f15 Bq hB3 O3 hX PD ZD LpD hDD
        generalize w5.setCell ⟨w1.heap.size, 1, none⟩ (.slice (some ⟨gg, 0, none⟩) (hs.length + 1) cg) = x4 at *
        clear y0 y1 yf0 yf1 d0 d1 f0 f1
        obtain ⟨d0, d1, f0, f1⟩ := lies2 L4
        obtain ⟨y0, y1, yf0, yf1⟩ := lies2 Z4
        have Z5 := setB2 (u0 := .slice (some ⟨g, 0, none⟩) n c) (u1 := .slice (some ⟨gg, 0, none⟩) (hs.length + 1) cg) Z4
        obtain ⟨v0, v1, _, _⟩ := lies2 Z5
        go_wp2_with fail
        refine bodyPost_ret (v := .agg #[.slice (some ⟨g, 0, none⟩) n c, .slice (some ⟨gg, 0, none⟩) (hs.length + 1) cg]) (by simp [results, Tryz.results50, go_sem, v0, v1]) rfl ?_
        have hD5 := (hD4.only ((Only.refl w.heap.size x4).set (p := ⟨w.heap.size, 0, none⟩) (.inl rfl) (.slice (some ⟨g, 0, none⟩) n c)) (by omega)).only ((Only.refl w.heap.size _).set (p := ⟨w.heap.size, 1, none⟩) (.inl rfl) (.slice (some ⟨gg, 0, none⟩) (hs.length + 1) cg)) (by omega)
        exact ⟨⟨g, n, c, l⟩, _, hs ++ [(⟨g3, n3, c3, l3⟩ : LoopT)], k3, rfl, hD5.mono (by omega), ⟨by simp; try omega, ⟨_, _, _, rfl⟩⟩, by omega, (R4.set (by show r < w.heap.size; omega) _).set (by show r < w.heap.size; omega) _, (P4.set (.inr (by show w.heap.size ≤ w.heap.size; omega)) _).set (.inr (by show w.heap.size ≤ w.heap.size; omega)) _⟩
  · have hok := hD.1
    obtain ⟨o1, o2, o3, o4, o5, o6, o7⟩ := hok
    have o3' : l.length = n := o3
    have o1' : 3 ≤ n := o1
    have hownO : w2.ownsRow (w.heap.size + 1) 35 2 (.slice (some ⟨g, 0, none⟩) n c) n (ptCells l) := own_of_blk o7 o3 o4 o5 o6
    have hm1 : (w2.alloc (.cells #[] 35)).ownsRow w2.heap.size 35 2 (.slice (some ⟨w2.heap.size, 0, none⟩) 0 0) 0 [] := World.ownsRow_made w2 #[] 0 (Nat.le_refl _) (by simp [maxLen]) rfl
    have hnw : ∀ j u, (ptCells l)[j]? = some u → (w2.alloc (.cells #[] 35)).cell? ((⟨g, 0, none⟩ : Addr).add j) = some u := (hownO.alloc _).cells (g := g) rfl
    have hone : ∀ u ∈ ptCells l, u.oneCell' = true := by intro u hu; simp only [ptCells, List.mem_flatMap] at hu; obtain ⟨p, _, hp⟩ := hu; simp at hp; rcases hp with rfl | rfl <;> rfl
    have hpl : (ptCells l).length = n * 2 := by rw [ptCells_len, o3']
    have B1 : Below w2.heap.size w2 (w2.alloc (.cells #[] 35)) := (by repeat (first | exact bw_refl _ | assumption | apply bw_drewN | apply bw_drew | apply bw_alloc | refine bw_set ?_ (by simp) _))
    have LqA := Lp.below B1
    have ZA := Z.below B1
    have z02 : w.heap.size < w2.heap.size := by omega
    have zr2 := R.lt
    go_wp2_with (first
      | (at_builtin; refine wpList_append_own_wide _ rfl _ _ _ rfl w2.heap.size 35 j0 _ 2 16 Tryz.underlying30 hj0 jz0 jz1 jz2 rfl (by omega) _ 0 [] rfl hm1 ⟨g, 0, none⟩ n c (ptCells l) rfl hpl hnw hone (by simp [maxLen]; omega) (by omega) (by simp) ?_; intro v1 x6 hown1 hgr1 hnil1; have zx6 := hgr1.size; have Lq6 := lies_grown LqA hgr1 (fun e => absurd (Option.some.inj e) (Nat.ne_of_lt z2)); have R6 := (R.below B1).grown hgr1 (fun j e => by have e' : w2.heap.size = j := Option.some.inj e; omega); have zw6 : w2.heap.size + 1 ≤ x6.heap.size := by simpa using zx6)
      | (go_at_call 52; refine (l71Pt_any (k1 + 1) a len cap r _ (by omega) R6).mono ?_; rintro e x7 ⟨s, t, k7, rfl, hPB, hk7, R7, O7⟩; have zx7 := O7.size; have Z6 := lies_grown ZA hgr1 (fun e => absurd (Option.some.inj e) (Nat.ne_of_lt z02)); have Lq7 : Lies w1.heap.size #[.slice (some ⟨g, 0, none⟩) n c, .slice (some ⟨gh, 0, none⟩) hs.length ch] 33 x7 := keepO O7 Lq6 (by omega); have hown7 := own_only hown1 O7 (by omega); have Z7 : Lies w.heap.size #[.slice none 0 0, .slice none 0 0] 33 x7 := keepO O7 Z6 (by omega))
      | (at_builtin; refine wpList_append_lies _ rfl _ _ _ rfl w2.heap.size 35 j0 _ 2 16 Tryz.underlying30 hj0 jz0 jz1 jz2 rfl (by omega) _ (0 + n) _ rfl (hown7.alloc _) ⟨x7.heap.size, 0, none⟩ 1 1 [.int .i64 s, .int .i64 t] rfl rfl (World.news_of_block (cs := #[.int .i64 s, .int .i64 t]) (t := 35) (fr := (0, 0)) (heap_alloc_new x7 _)) (by simp [Value.oneCell']) (by omega) (by simp [maxLen]; omega) (by omega) (by simp; omega) (x7.heap.size + 1) (by simp) ?_; intro gg cg x8 hown8 hgr8 hat8 hlt8; have Lq8 := lies_grown (Lq7.alloc _) hgr8 (fun e => by have := (hown7.lt _ e.symm).1; omega); obtain ⟨s0, s1, sf0, sf1⟩ := lies2 Lq8; have Z8 := lies_grown (Z7.alloc _) hgr8 (fun e => by have := (hown7.lt _ e.symm).1; omega); obtain ⟨yy0, yy1, yyf0, yyf1⟩ := lies2 Z8))
    have Z9 : Lies w.heap.size #[.slice none 0 0, .slice none 0 0] 33 (x8.setCell ⟨w1.heap.size, 0, none⟩ (.slice (some ⟨gg, 0, none⟩) (n + 1) cg)) := set_oth Z8 (by omega)
    have Z10 := setB2 (u0 := .slice (some ⟨gg, 0, none⟩) (n + 1) cg) (u1 := .slice (some ⟨gh, 0, none⟩) hs.length ch) Z9
    obtain ⟨v0, v1', _, _⟩ := lies2 Z10
    refine bodyPost_ret (v := .agg #[.slice (some ⟨gg, 0, none⟩) (n + 1) cg, .slice (some ⟨gh, 0, none⟩) hs.length ch]) (by simp [results, Tryz.results50, go_sem, v0, v1']) rfl ?_
    have B2 : Below x7.heap.size x7 (x7.alloc (.cells #[.int .i64 s, .int .i64 t] 35)) := (by repeat (first | exact bw_refl _ | assumption | apply bw_drewN | apply bw_drew | apply bw_alloc | refine bw_set ?_ (by simp) _))
    have n8 : ∀ j : Nat, some j = v1.ownBlock → w2.heap.size ≤ j := fun j e => (hown7.lt j e.symm).1
    have O9 : Only w1.heap.size x8 (x8.setCell ⟨w1.heap.size, 0, none⟩ (.slice (some ⟨gg, 0, none⟩) (n + 1) cg)) := (Only.refl w1.heap.size x8).set (.inl rfl) _
    have keep9 : ∀ t : LoopT, t.ok (w.heap.size + 1) w2 → t.g ≠ w1.heap.size → t.ok (w.heap.size + 1) (x8.setCell ⟨w1.heap.size, 0, none⟩ (.slice (some ⟨gg, 0, none⟩) (n + 1) cg)) := fun t ht hne => by
      have hl : t.g < w2.heap.size := ht.lt
      have hb : w.heap.size + 1 ≤ t.g := ht.2.2.2.2.2.1
      exact ((((ht.below B1).grown hgr1 (fun e => absurd (Option.some.inj e) (Nat.ne_of_lt hl))).only O7 (by omega)).below B2).grown hgr8 (fun e => by have := n8 _ e; omega) |>.only' O9 hne
    have hr9 := own_only' (own_grown (own_below (own_only (own_grown (own_below hD.2.2.1 B1) hgr1 (fun e => by have e' : gh = w2.heap.size := Option.some.inj e; omega)) O7 (by omega)) B2) hgr8 (fun e => by have := n8 gh e; omega)) O9 (fun e => by have e' : gh = w1.heap.size := Option.some.inj e; omega)
    have hggw : w2.heap.size ≤ gg := (hown8.lt gg rfl).1
    have hown9 : x8.ownsRow (w.heap.size + 1) 35 2 (.slice (some ⟨gg, 0, none⟩) (n + 1) cg) (n + 1) (ptCells (l ++ [(s, t)])) := by
      rw [ptCells_snoc]
      have := own_mono hown8 (show w.heap.size + 1 ≤ w2.heap.size by omega)
      simpa using this
    obtain ⟨hb9, hnc9, hcm9, hbg9⟩ := blk_of_own hown9 (by simp [o3'])
    have hD4 : PlD (w.heap.size + 1) (x8.setCell ⟨w1.heap.size, 0, none⟩ (.slice (some ⟨gg, 0, none⟩) (n + 1) cg)) ⟨gg, n + 1, cg, l ++ [(s, t)]⟩ (.slice (some ⟨gh, 0, none⟩) hs.length ch) hs :=
      ⟨LoopT.ok.only' ⟨by show 3 ≤ n + 1; omega, by show n + 1 ≤ 8; omega, by simp [o3'], hnc9, hcm9, by show w.heap.size + 1 ≤ gg; omega, hb9⟩ O9 (by show gg ≠ _; omega), hD.2.1, hr9, fun t ht => keep9 t (hD.2.2.2 t ht) (Nat.ne_of_lt (hgs t ht))⟩
    have R4 := ((R7.below B2).grown hgr8 (fun j e => by have := n8 j e.symm; omega)).set (p := ⟨w1.heap.size, 0, none⟩) (by show r < w1.heap.size; omega) (.slice (some ⟨gg, 0, none⟩) (n + 1) cg)
    have P4 := (((((P.trans (Only.of_below B1)).grown hgr1 (fun j e => by have e' : w2.heap.size = j := Option.some.inj e; omega)).trans O7).trans (Only.of_below B2)).grown hgr8 (fun j e => by have := n8 j e.symm; omega)).set (p := ⟨w1.heap.size, 0, none⟩) (.inr (by show w.heap.size ≤ w1.heap.size; omega)) (.slice (some ⟨gg, 0, none⟩) (n + 1) cg)
    generalize x8.setCell ⟨w1.heap.size, 0, none⟩ (.slice (some ⟨gg, 0, none⟩) (n + 1) cg) = x4 at *
    have hD5 := (hD4.only ((Only.refl w.heap.size x4).set (p := ⟨w.heap.size, 0, none⟩) (.inl rfl) (.slice (some ⟨gg, 0, none⟩) (n + 1) cg)) (by omega)).only ((Only.refl w.heap.size _).set (p := ⟨w.heap.size, 1, none⟩) (.inl rfl) (.slice (some ⟨gh, 0, none⟩) hs.length ch)) (by omega)
    exact ⟨⟨gg, n + 1, cg, l ++ [(s, t)]⟩, _, hs, k7, rfl, hD5.mono (by omega), ⟨by omega, ⟨_, _, _, rfl⟩⟩, by omega, (R4.set (by show r < w.heap.size; omega) _).set (by show r < w.heap.size; omega) _, (P4.set (.inr (by show w.heap.size ≤ w.heap.size; omega)) _).set (.inr (by show w.heap.size ≤ w.heap.size; omega)) _⟩
  · have e0 : (q == 0) = false := by simpa using q0
    have e1 : (q == 1) = false := by simpa using q1
    have e2 : (q == 2) = false := by simpa using q2
    have Z1 := setB2 (u0 := .slice (some ⟨g, 0, none⟩) n c) (u1 := .slice (some ⟨gh, 0, none⟩) hs.length ch) Z
    obtain ⟨v0, v1, _, _⟩ := lies2 Z1
    go_wp2_with fail
    refine bodyPost_ret (v := .agg #[.slice (some ⟨g, 0, none⟩) n c, .slice (some ⟨gh, 0, none⟩) hs.length ch]) (by simp [results, Tryz.results50, go_sem, v0, v1]) rfl ?_
    have hD2 := (hD.only ((Only.refl w.heap.size w2).set (p := ⟨w.heap.size, 0, none⟩) (.inl rfl) (.slice (some ⟨g, 0, none⟩) n c)) (by omega)).only ((Only.refl w.heap.size _).set (p := ⟨w.heap.size, 1, none⟩) (.inl rfl) (.slice (some ⟨gh, 0, none⟩) hs.length ch)) (by omega)
    exact ⟨⟨g, n, c, l⟩, _, hs, k1 + 1, rfl, hD2.mono (by omega), ⟨by omega, hst⟩, by omega, (R.set (by show r < w.heap.size; omega) _).set (by show r < w.heap.size; omega) _, (P.set (.inr (by show w.heap.size ≤ w.heap.size; omega)) _).set (.inr (by show w.heap.size ≤ w.heap.size; omega)) _⟩
end Go.Proofs.YtmdjhoknlplecaaGreatDoor
namespace Go.Proofs.YtmdjhoknlplecaaGreatDoor
open Go.RowKit

theorem boxes1' (w : World) (o : Obj) : ∃ W, W = w.alloc o ∧ Below w.heap.size w W ∧ W.heap[w.heap.size]? = some o := ⟨_, rfl, (by repeat (first | exact bw_refl _ | assumption | apply bw_drewN | apply bw_drew | apply bw_alloc | refine bw_set ?_ (by simp) _)), heap_new _ _⟩
/-- A loop that was drawn: points of our own memory. -/
def Loopy (base : Nat) (w' : World) (v : Value) (l : List P2) (n : Nat) : Prop :=
  ∃ (g c : Nat), v = .slice (some ⟨g, 0, none⟩) n c ∧ 3 ≤ n ∧ n ≤ 7 ∧ l.length = n ∧ n ≤ c ∧ c ≤ maxLen ∧ base ≤ g ∧ PtBlk w' g c l n
theorem Loopy.below {base : Nat} {w w' : World} {v : Value} {l : List P2} {n : Nat} (h : Loopy base w v l n) (J : Below w.heap.size w w') : Loopy base w' v l n := by
  obtain ⟨g, c, e, h1, h2, h3, h4, h5, h6, h7⟩ := h
  exact ⟨g, c, e, h1, h2, h3, h4, h5, h6, h7.below J⟩
theorem PtBlk.pts' {W : World} {g c n : Nat} {l : List P2} (h : PtBlk W g c l n) (hl : l.length = n) : Pts W.heap.size W (some ⟨g, 0, none⟩) n l := by
  have hg := h.lt
  obtain ⟨cur, h, hs, hc⟩ := h
  refine ⟨hl, .inr ⟨g, 0, rfl, hg, fun j hj => ?_⟩⟩
  rw [Nat.zero_add, row_cell h, row_cell h]; exact hc j hj
end Go.Proofs.YtmdjhoknlplecaaGreatDoor
namespace Go.Proofs.YtmdjhoknlplecaaGreatDoor
open Go.RowKit

theorem PlD.set {base b i : Nat} {W : World} {o : LoopT} {hv : Value} {hs : List LoopT} (h : PlD base W o hv hs) (hb : b < base) (v : Value) : PlD base (W.setCell ⟨b, i, none⟩ v) o hv hs :=
  h.only ((Only.refl b W).set (p := ⟨b, i, none⟩) (.inl rfl) v) hb
end Go.Proofs.YtmdjhoknlplecaaGreatDoor
namespace Go.Proofs.YtmdjhoknlplecaaGreatDoor
open Go.RowKit Go.Sort

set_option maxRecDepth 100000 in
set_option maxHeartbeats 4000000 in
theorem l71Tool_any (k : Nat) (a : Option Addr) (len cap r : Nat) (w : World) (hk : k ≤ 900000) (R : Rd w r k a len cap) :
    Calls Tryz.prog 51 #[.pointer (some ⟨r, 0, none⟩)] w fun e w' => ∃ (t : Int) (k' : Nat), e = .returned (.int .i64 t) ∧ (-1 ≤ t ∧ t ≤ 10) ∧ k' ≤ k + 2 ∧ Rd w' r k' a len cap ∧ Only r w w' := by
  have hlt := R.lt
  have P := Only.refl r w
  go_enter Tryz.func51, Tryz.ntmps51
  go_wp2_with fail
  refine (pick_rd 24 k a len cap r _ (by omega) (by omega) R).mono ?_
  clear R
  rintro e w1 ⟨x, rfl, xa, xb, R, O⟩
  replace P := P.trans O
  have z1 := P.size
  clear O
  by_cases hx : x = 0
  · subst hx
    go_wp2_with fail
    refine (pick_rd 4 (k + 1) a len cap r _ (by omega) (by omega) (R.alloc _)).mono ?_
    clear R
    rintro e w2 ⟨u, rfl, ua, ub, R, O⟩
    have B := keepO O (heap_new _ _) (by omega)
    replace P := (P.alloc _).trans O
    clear O
    have hc : u = 0 ∨ u = 1 ∨ u = 2 ∨ u = 3 := by omega
    rcases hc with hc | hc | hc | hc
    · subst hc
      have c0 : w2.cell? ⟨w1.heap.size, 0, none⟩ = some (.int .i64 (0)) := by simp [World.cell?, B]
      go_wp2_with fail
      go_ret
      exact ⟨_, k + 1 + 1, rfl, by omega, by omega, R, P⟩
    · subst hc
      have c0 : w2.cell? ⟨w1.heap.size, 1, none⟩ = some (.int .i64 (-1)) := by simp [World.cell?, B]
      go_wp2_with fail
      go_ret
      exact ⟨_, k + 1 + 1, rfl, by omega, by omega, R, P⟩
    · subst hc
      have c0 : w2.cell? ⟨w1.heap.size, 2, none⟩ = some (.int .i64 (10)) := by simp [World.cell?, B]
      go_wp2_with fail
      go_ret
      exact ⟨_, k + 1 + 1, rfl, by omega, by omega, R, P⟩
    · subst hc
      have c0 : w2.cell? ⟨w1.heap.size, 3, none⟩ = some (.int .i64 (9)) := by simp [World.cell?, B]
      go_wp2_with fail
      go_ret
      exact ⟨_, k + 1 + 1, rfl, by omega, by omega, R, P⟩
  · have hx' : (x == 0) = false := by simpa using hx
    go_wp2_with fail
    refine (pick_rd 10 (k + 1) a len cap r _ (by omega) (by omega) (R.alloc _)).mono ?_
    clear R
    rintro e w2 ⟨u, rfl, ua, ub, R, O⟩
    have B := keepO O (heap_new _ _) (by omega)
    replace P := (P.alloc _).trans O
    clear O
    have hc : u = 0 ∨ u = 1 ∨ u = 2 ∨ u = 3 ∨ u = 4 ∨ u = 5 ∨ u = 6 ∨ u = 7 ∨ u = 8 ∨ u = 9 := by omega
    rcases hc with hc | hc | hc | hc | hc | hc | hc | hc | hc | hc
    · subst hc
      have c0 : w2.cell? ⟨w1.heap.size, 0, none⟩ = some (.int .i64 (1)) := by simp [World.cell?, B]
      go_wp2_with fail
      go_ret
      exact ⟨_, k + 1 + 1, rfl, by omega, by omega, R, P⟩
    · subst hc
      have c0 : w2.cell? ⟨w1.heap.size, 1, none⟩ = some (.int .i64 (1)) := by simp [World.cell?, B]
      go_wp2_with fail
      go_ret
      exact ⟨_, k + 1 + 1, rfl, by omega, by omega, R, P⟩
    · subst hc
      have c0 : w2.cell? ⟨w1.heap.size, 2, none⟩ = some (.int .i64 (1)) := by simp [World.cell?, B]
      go_wp2_with fail
      go_ret
      exact ⟨_, k + 1 + 1, rfl, by omega, by omega, R, P⟩
    · subst hc
      have c0 : w2.cell? ⟨w1.heap.size, 3, none⟩ = some (.int .i64 (2)) := by simp [World.cell?, B]
      go_wp2_with fail
      go_ret
      exact ⟨_, k + 1 + 1, rfl, by omega, by omega, R, P⟩
    · subst hc
      have c0 : w2.cell? ⟨w1.heap.size, 4, none⟩ = some (.int .i64 (2)) := by simp [World.cell?, B]
      go_wp2_with fail
      go_ret
      exact ⟨_, k + 1 + 1, rfl, by omega, by omega, R, P⟩
    · subst hc
      have c0 : w2.cell? ⟨w1.heap.size, 5, none⟩ = some (.int .i64 (3)) := by simp [World.cell?, B]
      go_wp2_with fail
      go_ret
      exact ⟨_, k + 1 + 1, rfl, by omega, by omega, R, P⟩
    · subst hc
      have c0 : w2.cell? ⟨w1.heap.size, 6, none⟩ = some (.int .i64 (4)) := by simp [World.cell?, B]
      go_wp2_with fail
      go_ret
      exact ⟨_, k + 1 + 1, rfl, by omega, by omega, R, P⟩
    · subst hc
      have c0 : w2.cell? ⟨w1.heap.size, 7, none⟩ = some (.int .i64 (4)) := by simp [World.cell?, B]
      go_wp2_with fail
      go_ret
      exact ⟨_, k + 1 + 1, rfl, by omega, by omega, R, P⟩
    · subst hc
      have c0 : w2.cell? ⟨w1.heap.size, 8, none⟩ = some (.int .i64 (5)) := by simp [World.cell?, B]
      go_wp2_with fail
      go_ret
      exact ⟨_, k + 1 + 1, rfl, by omega, by omega, R, P⟩
    · subst hc
      have c0 : w2.cell? ⟨w1.heap.size, 9, none⟩ = some (.int .i64 (9)) := by simp [World.cell?, B]
      go_wp2_with fail
      go_ret
      exact ⟨_, k + 1 + 1, rfl, by omega, by omega, R, P⟩
end Go.Proofs.YtmdjhoknlplecaaGreatDoor
namespace Go.Proofs.YtmdjhoknlplecaaGreatDoor
open Go.RowKit

/-- What such an iterator promises, if no round says 'no more'. -/
def SeqO {α : Type} (F : Fence) (n : Nat) (P : Program) (g : Nat) (lb : Array Value) (encs : α → Array Value) (Kp : World → World → Prop) (all : List α) (w : World) : Prop :=
  ∀ (l : Nat) (J : List α → World → Prop) (W : World), Below w.heap.size w W → OwnFrom W.heap.size J →
    (∀ pre x W1, J pre W1 → pre.length < all.length → YieldAt F (n - 1) P l (encs x) W1 fun e W' => e = .returned (.bool true) ∧ J (pre ++ [x]) W' ∧ Kp W1 W' ∧ KeepsFrom W.heap.size W1 W') →
    J [] W → CallsIn F n P g (#[.func (.yield l) #[] #[]] ++ lb) W fun e W' => (∃ v, e = .returned v) ∧ J all W'
theorem keeps_far {B B' : Nat} {W W' : World} (h : KeepsFrom B W W') (hB : B ≤ B') : KeepsFrom B' W W' := ⟨h.size, fun k o hk => h.same k o (Nat.le_trans hB hk)⟩
theorem keepsFrom_put {B l : Nat} (W : World) (o : Obj) (hl : l < B) : KeepsFrom B W (W.putObj l o) := ⟨by simp, fun k _ hk h _ => (World.putObj_heap_other (by omega)).trans h⟩
/-- How a round ends: it goes on. -/
def onO {α : Type} (B : Nat) (Kp : World → World → Prop) (I : List α → World → Prop) (xs : List α) (W : World) : Exit → Act → World → Prop
  | .normal, _, W' => KeepsFrom B W W' ∧ Kp W W' ∧ I xs W'
  | _, _, _ => False
set_option maxHeartbeats 1000000 in
theorem wpIn_rangeO {F : Fence} {n : Nat} {P : Program} {α : Type} {g : Operand} {ps : Array Tmp} {assign body : Code} {Q : Exit → Act → World → Prop} {a : Act} {w : World}
    (hro : F.round = none) (h1 : 1 ≤ n) {gf : Nat} {lb : Array Value} (hg : a.eval g = .func (.func gf) #[] lb) (hFg : F.fn gf) (eg : ∀ args w, (callFunc gf args).run P w = .ok (.enter gf args) w)
    {encs : α → Array Value} {Kp : World → World → Prop} {all : List α} {w0 : World} (hseq : SeqO F (n - 1) P gf lb encs Kp all w0)
    (hKt : ∀ {A B C : World}, Kp A B → Kp B C → Kp A C) (hKb : ∀ (W : World) (l : Nat) (o o' : Obj), w.heap.size ≤ l → W.heap[l]? = some o → o.isCells = false → o.isWalk = false → Kp W (W.putObj l o'))
    (hb0 : Below w0.heap.size w0 w) (hps : ∀ x, (encs x).size = ps.size)
    (I : List α → World → Prop) (hI : OwnFrom w.heap.size I) (h0 : I [] w) (Ax : α → Act → World → Prop) (hAx : ∀ x a', OwnFrom w.heap.size (fun (_ : Unit) W => Ax x a' W))
    (hassign : ∀ (l : Nat) (pre : List α) (x : α) (W : World) (K : Act → World → Prop), I pre W → (∀ a' W', KeepsFrom w.heap.size W W' → Kp W W' → I pre W' → Ax x a' W' → K a' W') →
      assign.wpIn (F.inRound l) (n - 1 - 1) P (Exit.then K (fun _ _ _ => False)) { tmps := (ps.zip (encs x)).foldl (fun t (p, v) => t.setIfInBounds p v) a.tmps, defers := [] } W)
    (hbody : ∀ (l : Nat) (pre : List α) (x : α) (a' : Act) (W : World), w.heap.size ≤ l → I pre W → Ax x a' W → pre.length < all.length → body.wpIn (F.inRound l) (n - 1 - 1) P (onO w.heap.size Kp I (pre ++ [x]) W) a' W)
    (hdone : ∀ (D : Nat) (W : World), w.heap.size ≤ D → I all W → W.heap[D]? = some (.deferred (some [])) → Q .normal { a with defers := { target := .collected D, args := #[] } :: a.defers } W) :
    (Code.rangeFunc g ps assign body).wpIn F n P Q a w := by
  refine wpIn_rangeFunc ?_
  intro fn hfn
  rw [hro]
  obtain ⟨mk, hmk⟩ : ∃ mk : LoopState → Option Code → Loop, mk = fun st pe => { state := st, pending := pe, fn, tmps := a.tmps, params := ps, assign, body, defers := w.heap.size } := ⟨_, rfl⟩
  -- the two blocks of the loop's own books
  have book : ∀ W : World, ((w.alloc (.deferred (some []))).alloc (.loop (mk .ready none))) = W → W.heap[w.heap.size + 1]? = some (.loop (mk .ready none)) ∧ W.heap[w.heap.size]? = some (.deferred (some [])) ∧ I [] W ∧ Below w0.heap.size w0 W ∧ W.heap.size = w.heap.size + 2 := by
    rintro W rfl
    refine ⟨?_, ?_, hI.alloc _ (hI.alloc _ h0), ?_, by simp⟩
    · have := World.alloc_heap_new (w.alloc (.deferred (some []))) (.loop (mk .ready none)); rwa [World.size_alloc] at this
    · exact (Below.heap_alloc _ _ _ (by simp)).trans (World.alloc_heap_new w _)
    · exact hb0.trans ((((Below.refl _ w).alloc (Nat.le_refl _) _).alloc (by simp) _).mono hb0.size)
  obtain ⟨V, hV⟩ : ∃ V, (w.alloc (.deferred (some []))).alloc (.loop (mk .ready none)) = V := ⟨_, rfl⟩
  obtain ⟨hL, hK, hIV, hbV, hsz⟩ := book V hV
  refine ⟨w.heap.size + 1, [{ target := .collected w.heap.size, args := #[] }], V, { target := .fn (.func gf) lb, args := #[.func (.yield (w.heap.size + 1)) #[] #[]] }, V, gf, #[.func (.yield (w.heap.size + 1)) #[] #[]] ++ lb, V, ?_, ?_, ?_, ?_, fun _ => h1, ?_⟩
  · rw [← hV, hmk]; exact run_enterLoop_outer _ _ _ _ _
  · simp only [resolve, hg]
    simp [go_sem]
  · intro f' hf'
    simp [Target.leads] at hf'
    subst hf'
    exact hFg
  · simp [invoke, go_sem, eg]
  have keepB : ∀ {A B : World} {row : Option Nat} (k : Nat) (o : Obj), k < V.heap.size → A.grownBy B row → (∀ r, row = some r → V.heap.size ≤ r ∧ ∃ o : Obj, A.heap[r]? = some o ∧ o.isCells = false) → A.heap[k]? = some o → B.heap[k]? = some o := fun {A B row} k o hk hg' hr h =>
    (hg'.block k (Array.getElem?_eq_some_iff.1 h).1 (fun e => by have := (hr k e.symm).1; omega)).trans h
  refine (hseq (w.heap.size + 1) (fun pre W => I pre W ∧ W.heap[w.heap.size + 1]? = some (.loop (mk .ready none)) ∧ W.heap[w.heap.size]? = some (.deferred (some []))) V hbV
    (fun s A B row hs hg' hr => ⟨hI s A B row hs.1 hg' (fun r e => ⟨by have := (hr r e).1; omega, (hr r e).2⟩), keepB _ _ (by omega) hg' hr hs.2.1, keepB _ _ (by omega) hg' hr hs.2.2⟩) ?_ ⟨hIV, hL, hK⟩).mono ?_
  · rintro pre x W ⟨hi, hl, hk⟩ hlen
    have hy := run_yield (P := P) (args := encs x) hl (by rw [hmk]; exact hps x)
    rw [hmk] at hy
    refine ⟨fn, _, assign, body, hy, roundIn_of_wpIn hfn (hassign _ pre x W _ hi ?_)⟩
    clear hy
    intro a' U hkf hkp hiU hax
    have hlU := hkf.same _ _ (by omega) hl rfl
    have hkU := hkf.same _ _ (Nat.le_refl _) hk rfl
    have hltU : w.heap.size + 1 < U.heap.size := (Array.getElem?_eq_some_iff.1 hlU).1
    refine ⟨_, run_beginRound hlU (by rw [hmk]), ?_⟩
    obtain ⟨U2, hU2⟩ : ∃ U2, U.putObj (w.heap.size + 1) (.loop { mk .ready none with state := .busy }) = U2 := ⟨_, rfl⟩
    have hlU2 : U2.heap[w.heap.size + 1]? = some (.loop { mk .ready none with state := .busy }) := by rw [← hU2]; exact World.putObj_heap_same hltU
    have hkU2 : U2.heap[w.heap.size]? = some (.deferred (some [])) := by rw [← hU2]; exact (World.putObj_heap_other (by omega)).trans hkU
    have hpU2 : Kp U U2 := by rw [← hU2]; exact hKb _ _ _ _ (by omega) hlU rfl rfl
    have hiU2 : I pre U2 := by rw [← hU2]; exact hI.putObj _ hiU (by omega) hlU rfl
    have haU2 : Ax x a' U2 := by rw [← hU2]; exact (hAx x a').putObj (s := ()) _ hax (by omega) hlU rfl
    rw [hU2]
    refine wpIn_mono (hbody _ pre x a' _ (by omega) hiU2 haU2 hlen) ?_
    rintro e a3 W3 hp
    cases e with
    | normal =>
      obtain ⟨hk3, hp3, hi3⟩ := hp
      have hl3 := hk3.same _ _ (by omega) hlU2 rfl
      have hd3 := hk3.same _ _ (Nat.le_refl _) hkU2 rfl
      have hend := run_endRound (P := P) none hl3
      rw [hmk] at hend hl3 ⊢
      refine ⟨_, _, hend, rfl, ⟨hI.putObj _ hi3 (by omega) hl3 rfl, World.putObj_heap_same (Array.getElem?_eq_some_iff.1 hl3).1, (World.putObj_heap_other (by omega)).trans hd3⟩, ?_⟩
      refine ⟨hKt hkp (hKt hpU2 (hKt hp3 (hKb _ _ _ _ (by omega) hl3 rfl rfl))), ?_⟩
      have hU : KeepsFrom V.heap.size U U2 := by rw [← hU2]; exact keepsFrom_put _ _ (by omega)
      exact ((keeps_far hkf (by omega)).trans hU).trans ((keeps_far hk3 (by omega)).trans (keepsFrom_put _ _ (by omega)))
    | ret => exact hp.elim
    | exit id => exact hp.elim
    | goto t => exact hp.elim
    | panic ch => exact hp.elim
    | outgrown => exact hp.elim
  · rintro e W2 ⟨⟨v, rfl⟩, hi, hl, hk⟩
    exact ⟨none, _, by have := run_endLoop (P := P) hl (by rw [hmk]; simp); rw [hmk] at this; exact this, hdone _ _ (Nat.le_refl _) (hI.putObj _ hi (by omega) hl rfl) ((World.putObj_heap_other (by omega)).trans hk)⟩
end Go.Proofs.YtmdjhoknlplecaaGreatDoor
namespace Go.Proofs.YtmdjhoknlplecaaGreatDoor
open Go.RowKit Go.Sort

/-- A block of our own of so many cells. -/
def Own (W : World) (g n : Nat) (t : TypeId) : Prop := ∃ cur : Array Value, W.heap[g]? = some (.cells cur t (0, 0)) ∧ cur.size = n
theorem Own.lt {W : World} {g n : Nat} {t : TypeId} (h : Own W g n t) : g < W.heap.size := by obtain ⟨cur, h, _⟩ := h; exact (Array.getElem?_eq_some_iff.1 h).1
theorem Own.room {W : World} {g n i : Nat} {t : TypeId} (h : Own W g n t) (hi : i < n) : (∃ u, W.cell? ⟨g, i, none⟩ = some u) ∧ W.frozen? ⟨g, i, none⟩ = false := by
  obtain ⟨cur, h, hs⟩ := h
  exact ⟨⟨cur[i]'(by omega), by rw [row_cell h]; exact Array.getElem?_eq_getElem _⟩, row_frozen h⟩
theorem Own.set {W : World} {g n i : Nat} {t : TypeId} (h : Own W g n t) (v : Value) : Own (W.setCell ⟨g, i, none⟩ v) g n t := by
  obtain ⟨cur, h, hs⟩ := h
  exact ⟨_, setCell_row h v, by simpa using hs⟩
theorem Own.below {W W' : World} {g n : Nat} {t : TypeId} (h : Own W g n t) (J : Below W.heap.size W W') : Own W' g n t := by
  have hl := h.lt
  obtain ⟨cur, h, hs⟩ := h
  exact ⟨cur, (J.block g hl).trans h, hs⟩
theorem Own.only {W W' : World} {g n r : Nat} {t : TypeId} (h : Own W g n t) (O : Only r W W') (hne : g ≠ r) : Own W' g n t := by
  have hl := h.lt
  obtain ⟨cur, h, hs⟩ := h
  exact ⟨cur, (O.block g hne hl).trans h, hs⟩
theorem own_set_cell {W : World} {g n i j : Nat} {t : TypeId} (h : Own W g n t) (hi : i < n) (v : Value) : (W.setCell ⟨g, i, none⟩ v).cell? ⟨g, j, none⟩ = if i = j then some v else W.cell? ⟨g, j, none⟩ := by
  obtain ⟨cur, h, hs⟩ := h
  rw [row_cell (setCell_row h v), row_cell h, Array.getElem?_setIfInBounds]
  by_cases e : i = j
  · rw [if_pos e, if_pos e, if_pos (by omega)]
  · rw [if_neg e, if_neg e]
/-- The cells of a block, from the first on, are k, k + 1, and so on. -/
def Num (W : World) (g n : Nat) (k : Int) : Prop := ∀ j, j < n → W.cell? ⟨g, j, none⟩ = some (.int .i64 (k + j))
theorem Num.below {W W' : World} {g n : Nat} {k : Int} (h : Num W g n k) (hg : g < W.heap.size) (J : Below W.heap.size W W') : Num W' g n k := fun j hj => (J.cell (p := ⟨g, j, none⟩) hg).trans (h j hj)
theorem Num.snoc {W : World} {g n m : Nat} {t : TypeId} {k u : Int} (h : Own W g n t) (hN : Num W g m k) (hm : m < n) (hu : u = k + m) : Num (W.setCell ⟨g, m, none⟩ (.int .i64 u)) g (m + 1) k := by
  intro j hj
  rw [own_set_cell h hm]
  by_cases e : m = j
  · rw [if_pos e, hu, e]
  · rw [if_neg e]; exact hN j (by omega)
end Go.Proofs.YtmdjhoknlplecaaGreatDoor
namespace Go.Proofs.YtmdjhoknlplecaaGreatDoor
open Go.RowKit Go.Sort

def sAt (ss : List (P2 × P2)) (j : Nat) : P2 × P2 := ss[j]?.getD ((0, 0), (0, 0))
/-- A row of segments, its cells. -/
def SRow (W : World) (g : Nat) (ss : List (P2 × P2)) : Prop := ∀ j, j < ss.length → W.cell? ⟨g, j * 4, none⟩ = some (.int .i64 (sAt ss j).1.1) ∧ W.cell? ⟨g, j * 4 + 1, none⟩ = some (.int .i64 (sAt ss j).1.2) ∧ W.cell? ⟨g, j * 4 + 2, none⟩ = some (.int .i64 (sAt ss j).2.1) ∧ W.cell? ⟨g, j * 4 + 3, none⟩ = some (.int .i64 (sAt ss j).2.2)
theorem SRow.below {W W' : World} {g : Nat} {ss : List (P2 × P2)} (h : SRow W g ss) (k : Below W.heap.size W W') (hg : g < W.heap.size) : SRow W' g ss := fun j hj => by
  obtain ⟨c0, c1, c2, c3⟩ := h j hj
  exact ⟨(k.cell (p := ⟨g, j * 4, none⟩) hg).trans c0, (k.cell (p := ⟨g, j * 4 + 1, none⟩) hg).trans c1, (k.cell (p := ⟨g, j * 4 + 2, none⟩) hg).trans c2, (k.cell (p := ⟨g, j * 4 + 3, none⟩) hg).trans c3⟩
theorem SRow.only {W W' : World} {g r : Nat} {ss : List (P2 × P2)} (h : SRow W g ss) (O : Only r W W') (hne : g ≠ r) : SRow W' g ss := fun j hj => by
  obtain ⟨c0, c1, c2, c3⟩ := h j hj
  exact ⟨cellO O c0 hne, cellO O c1 hne, cellO O c2 hne, cellO O c3 hne⟩
def cellsS (ss : List (P2 × P2)) : List Value := ss.flatMap fun s => seg4 s.1 s.2
theorem cellsS_append (a b : List (P2 × P2)) : cellsS (a ++ b) = cellsS a ++ cellsS b := by simp [cellsS]
theorem cellsS_len (ss : List (P2 × P2)) : (cellsS ss).length = ss.length * 4 := by
  induction ss with
  | nil => rfl
  | cons s ss ih => have : cellsS (s :: ss) = seg4 s.1 s.2 ++ cellsS ss := by simp [cellsS]
                    rw [this, List.length_append, ih]; simp [seg4]; omega
theorem cellsS_at (ss : List (P2 × P2)) (j : Nat) (hj : j < ss.length) :
    (cellsS ss)[j * 4]? = some (.int .i64 (sAt ss j).1.1) ∧ (cellsS ss)[j * 4 + 1]? = some (.int .i64 (sAt ss j).1.2) ∧ (cellsS ss)[j * 4 + 2]? = some (.int .i64 (sAt ss j).2.1) ∧ (cellsS ss)[j * 4 + 3]? = some (.int .i64 (sAt ss j).2.2) := by
  induction ss generalizing j with
  | nil => simp at hj
  | cons s ss ih =>
    have e : cellsS (s :: ss) = .int .i64 s.1.1 :: .int .i64 s.1.2 :: .int .i64 s.2.1 :: .int .i64 s.2.2 :: cellsS ss := by simp [cellsS, seg4]
    cases j with
    | zero => rw [e]; exact ⟨rfl, rfl, rfl, rfl⟩
    | succ j =>
      have := ih j (by simpa using hj)
      have e1 : (j + 1) * 4 = j * 4 + 1 + 1 + 1 + 1 := by omega
      have e2 : (j + 1) * 4 + 1 = j * 4 + 1 + 1 + 1 + 1 + 1 := by omega
      have e3 : (j + 1) * 4 + 2 = j * 4 + 2 + 1 + 1 + 1 + 1 := by omega
      have e4 : (j + 1) * 4 + 3 = j * 4 + 3 + 1 + 1 + 1 + 1 := by omega
      rw [e, e2, e3, e4, e1]
      simpa [sAt] using this
/-- The edges of a loop. -/
def segsL (pts : List P2) : List (P2 × P2) := (List.range pts.length).map fun k => (ptAt pts k, ptAt pts (nxt pts k))
theorem segsL_len (pts : List P2) : (segsL pts).length = pts.length := by simp [segsL]
theorem segsL_at (pts : List P2) (k : Nat) (hk : k < pts.length) : sAt (segsL pts) k = (ptAt pts k, ptAt pts (nxt pts k)) := by simp [segsL, sAt, hk]
theorem segsL_cells (pts : List P2) : cellsS (segsL pts) = segCells pts pts.length := by
  have : ∀ n, cellsS ((List.range n).map fun k => (ptAt pts k, ptAt pts (nxt pts k))) = segCells pts n := by
    intro n
    induction n with
    | zero => rfl
    | succ n ih => rw [List.range_succ, List.map_append, cellsS_append, ih]; simp [segCells, cellsS]
  exact this _
/-- A slice of segments of our own memory, or none. -/
def AnsS (base top : Nat) (W : World) (v : Value) (ss : List (P2 × P2)) : Prop :=
  (ss = [] ∧ ∃ a c, v = .slice a 0 c) ∨ ∃ g c, v = .slice (some ⟨g, 0, none⟩) ss.length c ∧ base ≤ g ∧ g < top ∧ ss.length ≤ c ∧ Own W g (c * 4) 62 ∧ SRow W g ss
theorem AnsS.below {base top : Nat} {W W' : World} {v : Value} {ss : List (P2 × P2)} (h : AnsS base top W v ss) (J : Below W.heap.size W W') : AnsS base top W' v ss := by
  rcases h with h | ⟨g, c, e, hb, ht, hc, hO, hS⟩
  · exact .inl h
  · exact .inr ⟨g, c, e, hb, ht, hc, hO.below J, hS.below J hO.lt⟩
theorem AnsS.only {base top r : Nat} {W W' : World} {v : Value} {ss : List (P2 × P2)} (h : AnsS base top W v ss) (O : Only r W W') (hr : r < base ∨ top ≤ r) : AnsS base top W' v ss := by
  rcases h with h | ⟨g, c, e, hb, ht, hc, hO, hS⟩
  · exact .inl h
  · have hne : g ≠ r := by omega
    exact .inr ⟨g, c, e, hb, ht, hc, hO.only O hne, hS.only O hne⟩
theorem AnsS.of_owns {base n : Nat} {W : World} {v : Value} {ss : List (P2 × P2)} (h : W.ownsRow base 62 4 v n (cellsS ss)) (hn : ss.length = n) : AnsS base W.heap.size W v ss := by
  subst hn
  have h' := h
  rcases h.2 with ⟨h1, h2⟩ | ⟨g, cap, cur, e, hb, hg, h1, h2, hs, ht⟩
  · refine .inl ⟨List.eq_nil_of_length_eq_zero h2, none, 0, ?_⟩
    rw [h1]
  · refine .inr ⟨g, cap, e, hb, (Array.getElem?_eq_some_iff.1 hg).1, h1, ⟨cur, hg, hs⟩, fun j hj => ?_⟩
    subst e
    have hc := h'.cells (g := g) rfl
    have add : ∀ k : Nat, (⟨g, 0, none⟩ : Addr).add k = ⟨g, k, none⟩ := fun k => by unfold Addr.add; split <;> simp_all
    obtain ⟨c0, c1, c2, c3⟩ := cellsS_at ss j hj
    have d0 := hc _ _ c0
    have d1 := hc _ _ c1
    have d2 := hc _ _ c2
    have d3 := hc _ _ c3
    rw [add] at d0 d1 d2 d3
    exact ⟨d0, d1, d2, d3⟩
end Go.Proofs.YtmdjhoknlplecaaGreatDoor
namespace Go.Proofs.YtmdjhoknlplecaaGreatDoor
open Go.RowKit Go.Shelf
attribute [local go_sem] Oper.semAt_some

/-- A segment, as it is handed on. -/
def segE (s : P2 × P2) : Array Value := #[.agg #[.int .i64 s.1.1, .int .i64 s.1.2, .int .i64 s.2.1, .int .i64 s.2.2]]
/-- What a round keeps: all that lay below n₀, and every box of points or of a yield. -/
def KT (n₀ : Nat) (W W' : World) : Prop := Below n₀ W W' ∧ ∀ (k : Nat) (cs : Array Value) (t : TypeId), (t = 30 ∨ t = 115) → W.heap[k]? = some (Obj.cells cs t (0, 0)) → W'.heap[k]? = some (Obj.cells cs t (0, 0))
theorem KT.refl (n₀ : Nat) (W : World) : KT n₀ W W := ⟨Below.refl _ _, fun _ _ _ _ h => h⟩
theorem KT.trans {n₀ : Nat} {A B C : World} (h : KT n₀ A B) (k : KT n₀ B C) : KT n₀ A C := ⟨h.1.trans k.1, fun i cs t ht h0 => k.2 i cs t ht (h.2 i cs t ht h0)⟩
theorem KT_t {n₀ : Nat} : ∀ {A B C : World}, KT n₀ A B → KT n₀ B C → KT n₀ A C := fun h k => h.trans k
theorem KT_b {n₀ : Nat} {w : World} (hn : n₀ ≤ w.heap.size) : ∀ (W : World) (l : Nat) (o o' : Obj), w.heap.size ≤ l → W.heap[l]? = some o → o.isCells = false → o.isWalk = false → KT n₀ W (W.putObj l o') :=
  fun W l o o' hl ho h1 h2 => ⟨belowK_b hn W l o o' hl ho h1 h2, fun k cs t _ h => by
    refine (World.putObj_heap_other (fun e => ?_)).trans h
    subst e; rw [h] at ho; cases ho; cases h1⟩
theorem KT.of_below {n₀ : Nat} {W W' : World} (h : Below W.heap.size W W') (hn : n₀ ≤ W.heap.size) : KT n₀ W W' := ⟨h.mono hn, fun k _ _ _ h0 => (h.block k (Array.getElem?_eq_some_iff.1 h0).1).trans h0⟩
theorem KT.lies {n₀ b : Nat} {cs : Array Value} {t : TypeId} {W W' : World} (h : KT n₀ W W') (ht : t = 30 ∨ t = 115) (hL : Lies b cs t W) : Lies b cs t W' := h.2 b cs t ht hL
/-- A list of loops, all below n₀. -/
def RingN (n₀ : Nat) (W : World) : Option Addr → List RingT → Prop
  | p, [] => p = none
  | p, x :: xs => ∃ (b : Nat) (q : Option Addr) (t : TypeId), p = some ⟨b, 0, none⟩ ∧ b < n₀ ∧ Lies b #[.slice x.a x.len x.cap, .pointer q] t W ∧ x.len ≤ 1048576 ∧ Pts n₀ W x.a x.len x.pts ∧ RingN n₀ W q xs
theorem RingN.keep {n₀ : Nat} {W V : World} (h : Below n₀ W V) : ∀ {p : Option Addr} {xs : List RingT}, RingN n₀ W p xs → RingN n₀ V p xs
  | _, [], hl => hl
  | _, _ :: _, ⟨b, q, t, hp, hb, hL, hl, hP, hr⟩ => ⟨b, q, t, hp, hb, (h.block b hb).trans hL, hl, hP.below h, RingN.keep h hr⟩
theorem RingL.ringN {n₀ : Nat} {W : World} (hn : W.heap.size ≤ n₀) : ∀ {p : Option Addr} {xs : List RingT}, RingL n₀ W p xs → RingN n₀ W p xs
  | _, [], hl => hl
  | _, _ :: _, ⟨b, q, t, hp, hL, hl, hP, hr⟩ => ⟨b, q, t, hp, Nat.lt_of_lt_of_le hL.lt hn, hL, hl, hP, RingL.ringN hn hr⟩
theorem RingN.ringL {n₀ : Nat} {W : World} : ∀ {p : Option Addr} {xs : List RingT}, RingN n₀ W p xs → RingL n₀ W p xs
  | _, [], hl => hl
  | _, _ :: _, ⟨b, q, t, hp, _, hL, hl, hP, hr⟩ => ⟨b, q, t, hp, hL, hl, hP, RingN.ringL hr⟩
/-- A function that has ended some loops leaves: no call was deferred in any round. -/
theorem leaves_marks {fn : Func} {n : Nat} {P : Program} {tmps : Array Value} {R : Ending → World → Prop} (G : World → Prop) (B : Nat) (hG : ∀ V D o, B ≤ D → V.heap[D]? = some (.deferred (some [])) → G V → G (V.putObj D o)) (hres : ∀ V, G V → ∃ v, (results fn tmps).run P V = .ok v V ∧ R (.returned v) V) :
    ∀ (ds : List Nat) (V : World), ds.Nodup → (∀ D ∈ ds, B ≤ D ∧ V.heap[D]? = some (.deferred (some []))) → G V → LeavesInM Fence.wide n P fn tmps R (ds.map fun D => { target := .collected D, args := #[] }) .returning V
  | [], V, _, _, hg => hres V hg
  | D :: ds, V, hnd, hd, hg => by
    obtain ⟨hB, hD⟩ := hd D (by simp)
    refine ⟨by simp, .inl ⟨D, _, rfl, run_takeDeferred hD, ?_⟩⟩
    rw [List.nodup_cons] at hnd
    refine leaves_marks G B hG hres ds _ hnd.2 (fun E hE => ?_) (hG V D _ hB hD hg)
    obtain ⟨h1, h2⟩ := hd E (by simp [hE])
    exact ⟨h1, (World.putObj_heap_other (fun e => hnd.1 (by rw [← e]; exact hE))).trans h2⟩
theorem roundIn_any {m m' l : Nat} {P : Program} {f : FuncId} {tmps : Array Value} {assign body : Code} {w : World} {R : Ending → World → Prop} (h : RoundIn Fence.wide m P l f tmps assign body w R) (l' : Nat) : RoundIn (Fence.wide.inRound l') m' P l f tmps assign body w R :=
  ⟨h.1, fun c cs _ => h.2 c cs (room_wide _)⟩
theorem segsL_fin (pts : List P2) : ((List.finRange pts.length).map fun k => (ptAt pts k.1, ptAt pts (nxt pts k.1))) = segsL pts := fin_map' pts.length (fun k => (ptAt pts k, ptAt pts (nxt pts k)))
def edgR (rs : List RingT) : List (P2 × P2) := rs.flatMap fun x => segsL x.pts
set_option maxRecDepth 100000 in
set_option maxHeartbeats 4000000 in
theorem ringE_seq (n : Nat) (hn : 6 ≤ n) (B n₀ : Nat) (q : Option Addr) (rs : List RingT) (w : World) (hB : w.cell? ⟨B, 0, none⟩ = some (.pointer q)) (hn₀ : n₀ ≤ w.heap.size) (hR : RingN n₀ w q rs) :
    SeqO Fence.wide n Tryz.prog 102 #[.pointer (some ⟨B, 0, none⟩)] segE (KT n₀) (edgR rs) w := by
  intro l J W hW hJ hY h0
  have zBw : B < w.heap.size := World.block_lt_of_cell? _ _ hB
  have hBW := (hW.cell (p := ⟨B, 0, none⟩) zBw).trans hB
  have hRW := hR.keep (hW.mono hn₀)
  have zW := hW.size
  have zB : B < W.heap.size := by omega
  have h1 : 1 ≤ n := by omega
  refine callsIn_of_wp_marks Tryz.func102 rfl trivial ?_ rfl
  simp only [Tryz.ntmps102, List.size_toArray, List.length_cons, List.length_nil, Nat.reduceAdd, Nat.reduceSub, Array.replicate_succ, Array.replicate_zero, List.push_toArray, List.append_toArray, List.nil_append, List.cons_append]
  gi_wp2
  refine wpIn_loop (fun a V => ∃ (dn rest : List RingT) (p : Option Addr) (ds : List Nat) (u7 u8 u9 u10 u11 u12 u13 u14 u15 u16 u17 : Value), rs = dn ++ rest ∧ RingN n₀ V p rest ∧ J (edgR dn) V ∧ KT n₀ W V ∧ Lies W.heap.size #[.func (.yield l) #[] #[]] 115 V ∧ (∀ D ∈ ds, W.heap.size ≤ D ∧ V.heap[D]? = some (.deferred (some []))) ∧ ds.Nodup ∧
      a = { tmps := #[.func (.yield l) #[] #[], .pointer (some ⟨B, 0, none⟩), .pointer (some ⟨W.heap.size, 0, none⟩), .pointer p, undef, undef, .pointer q, u7, u8, u9, u10, u11, u12, u13, u14, u15, u16, u17, undef, undef, undef, undef, undef, undef], defers := ds.map fun D => { target := .collected D, args := #[] } })
    (fun a V => ringsLeft V (a.tmps.getD 3 undef)) ?start ?round
  case start =>
    refine ⟨[], rs, q, [], undef, undef, undef, undef, undef, undef, undef, undef, undef, undef, undef, rfl, hRW.keep ((Below.refl _ W).alloc (by omega) _), ?_, KT.of_below ((Below.refl _ W).alloc (Nat.le_refl _) _) (by omega), Lies.new W _ _, fun D hD => by simp at hD, by simp, rfl⟩
    exact hJ.alloc _ h0
  case round =>
    rintro a V ⟨dn, rest, p, ds, u7, u8, u9, u10, u11, u12, u13, u14, u15, u16, u17, hrs, hRV, hJV, hkt, LY, hds, hnd, rfl⟩
    cases rest with
    | nil =>
      obtain rfl : p = none := hRV
      gi_wp2
      rw [List.append_nil] at hrs
      subst hrs
      exact leaves_marks (fun V => J (edgR rs) V) W.heap.size (fun V D o hBD hD hj => hJ.putObj _ hj hBD hD rfl) (fun V hg => ⟨_, results_none rfl _ _ _, ⟨_, rfl⟩, hg⟩) ds V hnd hds hJV
    | cons y ys =>
      obtain ⟨b, q', t, rfl, hb, hL, hyl, hP, hr⟩ := hRV
      obtain ⟨c0, c1, _, _⟩ := lies2 hL
      have zV := hkt.1.size
      have hdsV : ∀ D ∈ ds, D < V.heap.size := fun D hD => (Array.getElem?_eq_some_iff.1 (hds D hD).2).1
      gi_wp2_with (refine ⟨trivial, ?_⟩; gi_at_call 103; refine (edges_in (n - 1) _ _ _ _).mono ?_; rintro e w' ⟨rfl, rfl⟩)
      have BL : Lies V.heap.size #[.slice y.a y.len y.cap] 30 (V.alloc (.cells #[.slice y.a y.len y.cap] 30)) := Lies.new V _ _
      have hBV : Below V.heap.size V (V.alloc (.cells #[.slice y.a y.len y.cap] 30)) := (by repeat (first | exact bw_refl _ | assumption | apply bw_drewN | apply bw_drew | apply bw_alloc | refine bw_set ?_ (by simp) _))
      have hJ2 : J (edgR dn) (V.alloc (.cells #[.slice y.a y.len y.cap] 30)) := hJ.alloc _ hJV
      have LY2 := LY.below hBV
      have hds2 : ∀ D ∈ ds, W.heap.size ≤ D ∧ (V.alloc (.cells #[.slice y.a y.len y.cap] 30)).heap[D]? = some (.deferred (some [])) := fun D hD => ⟨(hds D hD).1, (hBV.block D (hdsV D hD)).trans (hds D hD).2⟩
      have hP2 : Pts n₀ (V.alloc (.cells #[.slice y.a y.len y.cap] 30)) y.a y.len y.pts := hP.below (hBV.mono (by omega))
      have hK2 : KT n₀ V (V.alloc (.cells #[.slice y.a y.len y.cap] 30)) := KT.of_below hBV (by omega)
      have hsz : (V.alloc (.cells #[.slice y.a y.len y.cap] 30)).heap.size = V.heap.size + 1 := by simp
      obtain ⟨V2, hV2⟩ : ∃ V2, V.alloc (.cells #[.slice y.a y.len y.cap] 30) = V2 := ⟨_, rfl⟩
      rw [hV2] at BL hBV hJ2 LY2 hds2 hP2 hK2 hsz ⊢
      clear hV2
      have hst := edges_stops (n - 1) (by omega) V.heap.size n₀ y.a y.len y.cap y.pts V2 (by omega) (by omega) hyl BL.c1 hP2
      refine wpIn_rangeFunc_ownH rfl h1 (gf := 119) (lb := #[.pointer (some ⟨V.heap.size, 0, none⟩)]) rfl trivial (enters_of Tryz.func119 (by kernel_rfl) rfl)
        hst KB_t (KB_b (by omega) (by omega)) (Below.refl _ _) (fun _ => rfl)
        (fun pre V3 => (J (edgR dn ++ pre.map fun k => (ptAt y.pts k.1, ptAt y.pts (nxt y.pts k.1))) V3 ∧ Lies W.heap.size #[.func (.yield l) #[] #[]] 115 V3 ∧ Lies V.heap.size #[.slice y.a y.len y.cap] 30 V3 ∧ ∀ D ∈ ds, W.heap.size ≤ D ∧ V3.heap[D]? = some (.deferred (some []))) ∧ KT n₀ V V3)
        (fun _ _ _ => False)
        (fun s X Y row hs hg hr => ⟨⟨hJ _ X Y row hs.1.1 hg (fun r e => ⟨by have := (hr r e).1; omega, (hr r e).2⟩), lies_own (β := Unit) _ _ _ () X Y row hs.1.2.1 hg (fun r e => (hr r e).2), lies_own (β := Unit) _ _ _ () X Y row hs.1.2.2.1 hg (fun r e => (hr r e).2), fun D hD => ⟨(hs.1.2.2.2 D hD).1, (hg.block D (Array.getElem?_eq_some_iff.1 (hs.1.2.2.2 D hD).2).1 (fun e => by have := (hr D e.symm).1; have := hdsV D hD; omega)).trans (hs.1.2.2.2 D hD).2⟩⟩, ⟨ownFrom_below (β := Unit) (n₀ := n₀) (B := V2.heap.size) (w₀ := V) (by omega) (by omega) () X Y row hs.2.1 hg hr, fun k cs t ht h => (hg.block k (Array.getElem?_eq_some_iff.1 (hs.2.2 k cs t ht h)).1 (fun e => by obtain ⟨_, o, ho, hc⟩ := hr k e.symm; rw [hs.2.2 k cs t ht h] at ho; cases ho; cases hc)).trans (hs.2.2 k cs t ht h)⟩⟩)
        (fun c => ownFrom_pure _ _)
        ⟨⟨by simpa using hJ2, LY2, BL, hds2⟩, hK2⟩
        (fun x a' V3 => ∃ Bx, Lies Bx #[.int .i64 (ptAt y.pts x.1).1, .int .i64 (ptAt y.pts x.1).2, .int .i64 (ptAt y.pts (nxt y.pts x.1)).1, .int .i64 (ptAt y.pts (nxt y.pts x.1)).2] 62 V3 ∧ a' = { tmps := #[.func (.yield l) #[] #[], .pointer (some ⟨B, 0, none⟩), .pointer (some ⟨W.heap.size, 0, none⟩), .pointer (some ⟨b, 0, none⟩), undef, .pointer (some ⟨Bx, 0, none⟩), .pointer q, .pointer (some ⟨b, 0, none⟩), .bool true, u9, u10, u11, u12, .pointer (some ⟨b, 0, none⟩), .pointer (some ⟨b, 0, none⟩), .pointer (some ⟨b, 0, none⟩), .slice y.a y.len y.cap, .func (.func 119) #[] #[.pointer (some ⟨V.heap.size, 0, none⟩)], .int .i64 (x.1 : Int), .agg #[.int .i64 (ptAt y.pts x.1).1, .int .i64 (ptAt y.pts x.1).2, .int .i64 (ptAt y.pts (nxt y.pts x.1)).1, .int .i64 (ptAt y.pts (nxt y.pts x.1)).2], undef, undef, undef, undef], defers := [] })
        (fun x a' _ X Y row hs hg hr => by obtain ⟨Bx, e2, e3⟩ := hs; exact ⟨Bx, lies_own (β := Unit) Bx _ _ () X Y row e2 hg (fun r e => (hr r e).2), e3⟩)
        ?assign ?body ?done ?stop
      case assign =>
        rintro l' pre x V3 K ⟨⟨hj, L1, L2, hd⟩, hk3⟩ hK
        unfold encE
        have zV3 := hk3.1.size
        have hB3 : Below V3.heap.size V3 (V3.alloc (.cells #[.int .i64 (ptAt y.pts x.1).1, .int .i64 (ptAt y.pts x.1).2, .int .i64 (ptAt y.pts (nxt y.pts x.1)).1, .int .i64 (ptAt y.pts (nxt y.pts x.1)).2] 62)) := (by repeat (first | exact bw_refl _ | assumption | apply bw_drewN | apply bw_drew | apply bw_alloc | refine bw_set ?_ (by simp) _))
        gi_wp2
        exact hK _ _ ((KeepsOthers.alloc _ _).from _) (KB.of_below hB3 (by omega) L2.lt) ⟨⟨hJ.alloc _ hj, L1.below hB3, L2.below hB3, fun D hD => ⟨(hd D hD).1, (hB3.block D (Array.getElem?_eq_some_iff.1 (hd D hD).2).1).trans (hd D hD).2⟩⟩, hk3.trans (KT.of_below hB3 (by omega))⟩ ⟨V3.heap.size, Lies.new V3 _ _, rfl⟩
      case body =>
        rintro l' pre x a' V3 hl2 ⟨r, hr'⟩ ⟨⟨hj, L1, L2, hd⟩, hk3⟩ ⟨Bx, bX, rfl⟩ hlt
        obtain ⟨k, hkk⟩ := x
        dsimp only at *
        have cY := L1.c1
        obtain ⟨cx0, cx1, cx2, cx3⟩ := bX.c4
        have hlen : (edgR dn ++ pre.map fun k => (ptAt y.pts k.1, ptAt y.pts (nxt y.pts k.1))).length < (edgR rs).length := by
          rw [hrs]; simp only [edgR, List.flatMap_append, List.flatMap_cons, List.length_append, List.length_map, segsL_len]; omega
        obtain ⟨fn, tmps, assign, body, hy, hRd⟩ := hY _ (ptAt y.pts k, ptAt y.pts (nxt y.pts k)) V3 hj hlen
        dsimp only [segE] at hy
        have hR2 := fun m' => roundIn_any (m' := m') hRd l'
        clear hRd
        gi_wp2_with (refine ⟨fun _ => by omega, ?_⟩; refine (hR2 _).mono ?_; rintro e V4 ⟨rfl, hj4, hk4, hkf4⟩)
        have L2' := hk4.lies (.inl rfl) L2
        refine ⟨keeps_far hkf4 (by omega), ⟨hk4.1, L2'.trans L2.symm⟩, ⟨?_, hk4.lies (.inr rfl) L1, L2', fun D hD => ⟨(hd D hD).1, hkf4.same D _ (hd D hD).1 (hd D hD).2 rfl⟩⟩, hk3.trans hk4⟩
        rw [List.map_append, ← List.append_assoc]; exact hj4
      case done =>
        rintro D zs V3 hD rfl ⟨⟨hj, L1, L2, hd⟩, hk3⟩ hKD
        have hj' : J (edgR (dn ++ [y])) V3 := by
          rw [segsL_fin] at hj; simpa [edgR] using hj
        clear hj
        obtain ⟨c0', c1', _, _⟩ := lies2 (show Lies b #[.slice y.a y.len y.cap, .pointer q'] t V3 from (hk3.1.block b hb).trans hL)
        gi_wp2
        have hRn := hr.keep hk3.1
        refine ⟨⟨dn ++ [y], ys, q', D :: ds, _, _, _, _, _, _, _, _, _, _, _, by simp [hrs], hRn, hj', hkt.trans hk3, L1, ?_, ?_, rfl⟩, ?_⟩
        · intro E hE
          rcases List.mem_cons.1 hE with rfl | hE
          · exact ⟨by omega, hKD⟩
          · exact hd E hE
        · rw [List.nodup_cons]
          exact ⟨fun h => by have := hdsV D h; omega, hnd⟩
        · show ringsLeft V3 (.pointer q') < ringsLeft V (.pointer (some ⟨b, 0, none⟩))
          rw [ringsLeft_eq hRn.ringL, ringsLeft_eq (xs := y :: ys) ⟨b, q', t, rfl, hL, hyl, hP, hr.ringL⟩]; simp
      case stop =>
        rintro D c pre V3 hD hpre h hK
        exact h.elim
set_option maxHeartbeats 1000000 in
theorem ringEdges_in (n : Nat) (q : Option Addr) (w : World) :
    CallsIn Fence.wide n Tryz.prog 66 #[.pointer q] w fun e w' => e = .returned (.func (.func 102) #[] #[.pointer (some ⟨w.heap.size, 0, none⟩)]) ∧ w' = w.alloc (.cells #[.pointer q] 110) := by
  refine callsIn_of_wp Tryz.func66 rfl trivial ?_ rfl
  simp only [Tryz.ntmps66, List.size_toArray, List.length_cons, List.length_nil, Nat.reduceAdd, Nat.reduceSub, Array.replicate_succ, Array.replicate_zero, List.push_toArray, List.append_toArray, List.nil_append, List.cons_append]
  gi_wp2
  go_ret
  exact ⟨rfl, rfl⟩
end Go.Proofs.YtmdjhoknlplecaaGreatDoor
namespace Go.Proofs.YtmdjhoknlplecaaGreatDoor
open Go.RowKit Go.Sort

/-- The edges that are told of a plate. -/
def plE (o : List P2) (hs : List (List P2)) : List (P2 × P2) := if plV o hs then segsL o ++ hs.flatMap segsL else []
theorem flat_len (hs : List (List P2)) (h : ∀ x ∈ hs, x.length ≤ 8) : (hs.flatMap segsL).length ≤ 8 * hs.length := by
  induction hs with
  | nil => simp
  | cons x xs ih =>
    have h1 := h x (by simp)
    have h2 := ih (fun y hy => h y (by simp [hy]))
    rw [List.flatMap_cons, List.length_append, segsL_len, List.length_cons]; omega
theorem plE_len (o : List P2) (hs : List (List P2)) : (plE o hs).length ≤ 24 := by
  unfold plE
  cases hv : plV o hs
  · simp
  · have L := (plV_iff o hs).1 hv
    have h0 := (okV_pos L.out).2
    have h1 := plV_len hv
    have h2 := flat_len hs (fun x hx => (okV_pos (L.ok x hx)).2)
    rw [if_pos rfl, List.length_append, segsL_len]; omega
theorem edgR_eq (x : RingT) (xs : List RingT) (hs : List (List P2)) (h : xs.map RingT.pts = hs) : edgR (x :: xs) = segsL x.pts ++ hs.flatMap segsL := by
  rw [← h]; simp [edgR, List.flatMap_map]
theorem ansS_mono {base base' top : Nat} {W : World} {v : Value} {ss : List (P2 × P2)} (h : AnsS base top W v ss) (hb : base' ≤ base) : AnsS base' top W v ss := by
  rcases h with h | ⟨g, c, e, h1, r⟩
  · exact .inl h
  · exact .inr ⟨g, c, e, by omega, r⟩
end Go.Proofs.YtmdjhoknlplecaaGreatDoor
namespace Go.Proofs.YtmdjhoknlplecaaGreatDoor
open Go.RowKit Go.Sort

theorem segsL_mem (l : List P2) (s : P2 × P2) : s ∈ segsL l ↔ ∃ i, i < l.length ∧ s = (ptAt l i, ptAt l (nxt l i)) := by
  unfold segsL; simp only [List.mem_map, List.mem_range]
  exact ⟨fun ⟨i, h, e⟩ => ⟨i, h, e.symm⟩, fun ⟨i, h, e⟩ => ⟨i, h, e.symm⟩⟩
theorem sAt_mem {ss : List (P2 × P2)} {j : Nat} (h : j < ss.length) : sAt ss j ∈ ss := by unfold sAt; rw [List.getElem?_eq_getElem h, Option.getD_some]; exact List.getElem_mem _
theorem plE_ok {o : List P2} {hs : List (List P2)} (hv : plV o hs = true) {s : P2 × P2} (h : s ∈ plE o hs) : sgP s.1 s.2 = true := by
  have L := (plV_iff o hs).1 hv
  unfold plE at h
  rw [hv, if_pos rfl, List.mem_append, List.mem_flatMap] at h
  rcases h with h | ⟨t, ht, h⟩
  · obtain ⟨i, hi, rfl⟩ := (segsL_mem _ _).1 h; exact okV_seg' L.out hi
  · obtain ⟨i, hi, rfl⟩ := (segsL_mem _ _).1 h; exact okV_seg' (L.ok t ht) hi
theorem plE_on {o : List P2} {hs : List (List P2)} (hv : plV o hs = true) (p : P2) : (∃ j, j < (plE o hs).length ∧ hasP (sAt (plE o hs) j).1 (sAt (plE o hs) j).2 p = true) ↔ (onL o p = true ∨ ∃ h ∈ hs, onL h p = true) := by
  have key : (∃ j, j < (plE o hs).length ∧ hasP (sAt (plE o hs) j).1 (sAt (plE o hs) j).2 p = true) ↔ ∃ s ∈ plE o hs, hasP s.1 s.2 p = true := by
    constructor
    · rintro ⟨j, hj, h⟩; exact ⟨_, sAt_mem hj, h⟩
    · rintro ⟨s, hs', h⟩
      obtain ⟨j, hj, rfl⟩ := List.getElem_of_mem hs'
      exact ⟨j, hj, by unfold sAt; rw [List.getElem?_eq_getElem hj, Option.getD_some]; exact h⟩
  rw [key]
  unfold plE
  rw [hv, if_pos rfl]
  constructor
  · rintro ⟨s, h, e⟩
    rw [List.mem_append, List.mem_flatMap] at h
    rcases h with h | ⟨t, ht, h⟩
    · obtain ⟨i, hi, rfl⟩ := (segsL_mem _ _).1 h; exact .inl ((onL_iff _ _).2 ⟨i, hi, e⟩)
    · obtain ⟨i, hi, rfl⟩ := (segsL_mem _ _).1 h; exact .inr ⟨t, ht, (onL_iff _ _).2 ⟨i, hi, e⟩⟩
  · rintro (h | ⟨t, ht, h⟩)
    · obtain ⟨i, hi, e⟩ := (onL_iff _ _).1 h; exact ⟨_, List.mem_append.2 (.inl ((segsL_mem _ _).2 ⟨i, hi, rfl⟩)), e⟩
    · obtain ⟨i, hi, e⟩ := (onL_iff _ _).1 h; exact ⟨_, List.mem_append.2 (.inr (List.mem_flatMap.2 ⟨t, ht, (segsL_mem _ _).2 ⟨i, hi, rfl⟩⟩)), e⟩
end Go.Proofs.YtmdjhoknlplecaaGreatDoor
namespace Go.Proofs.YtmdjhoknlplecaaGreatDoor
open Go.RowKit


set_option maxHeartbeats 400000 in
theorem gcd_impl_nat (k l : Nat) (w : World) (hk : k ≤ 1000000) (hl : l ≤ 1000000) :
    Calls Tryz.prog 92 #[.int .i64 k, .int .i64 l] w fun e w' => e = .returned (.int .i64 (Nat.gcd k l : Nat)) ∧ ∃ n, w' = w.drewN n := by
  go_enter Tryz.func92, Tryz.ntmps92
  go_wp2
  go_loopw [0, 1] (fun a b wr => ∃ x y n : Nat, x ≤ 1000000 ∧ y ≤ 1000000 ∧ a = .int .i64 x ∧ b = .int .i64 y ∧ Hid (Nat.gcd x y = Nat.gcd k l) ∧ wr = w.drewN n) (fun _ b _ => (intOf b).toNat)
  case atStart => exact ⟨k, l, 0, hk, hl, rfl, rfl, rfl, rfl⟩
  case round =>
    obtain ⟨x, y, n, hx, hy, rfl, rfl, hg, rfl⟩ := hrel
    by_cases h0 : y = 0
    · have H0 : Hid (y = 0) := h0
      have hz : ((y : Int) != 0) = false := by simp [h0]
      clear h0
      go_wp2
      go_ret
      have h0 := H0.out
      have hG := hg.out
      subst h0
      rw [Nat.gcd_zero_right] at hG
      exact ⟨ret_int (by rw [hG]), n, rfl⟩
    · have h1 : (1 : Int) ≤ (y : Int) := by omega
      have hz : ((y : Int) != 0) = true := by simp; omega
      have HG : Hid (Nat.gcd y (x % y) = Nat.gcd k l) := by rw [gcd_step]; exact hg
      have hm : x % y < y := Nat.mod_lt _ (by omega)
      clear h0 hg
      go_wp2
      go_quiet (fail)
      go_wp2
      exact ⟨⟨y, x % y, n + nq, hy, by omega, rfl, by go_num, HG, World.drewN_drewN _ _ _⟩, by simp [intOf]; omega⟩
theorem gcd_impl (a b : Int) (w : World) (ha : 0 ≤ a) (hb : 0 ≤ b) (hk : a ≤ 1000000) (hl : b ≤ 1000000) :
    Calls Tryz.prog 92 #[.int .i64 a, .int .i64 b] w fun e w' => e = .returned (.int .i64 (G a b)) ∧ ∃ n, w' = w.drewN n := by
  obtain ⟨k, rfl⟩ := Int.eq_ofNat_of_zero_le ha
  obtain ⟨l, rfl⟩ := Int.eq_ofNat_of_zero_le hb
  rw [G_nat]
  exact gcd_impl_nat k l w (by omega) (by omega)

end Go.Proofs.YtmdjhoknlplecaaGreatDoor
namespace Go.Proofs.YtmdjhoknlplecaaGreatDoor
open Go.RowKit Go.Extern.Stop Go.Stop Go.Extern

theorem isTypeOf (v : Value) (w : World) : (Extern.ReflectliteType.typeOf #[.iface 168 v]).run Tryz.prog w = .ok (.iface 154 (.agg #[.pointer (some ⟨1, 168, none⟩)])) w := by kernel_rfl
/-- What the model lays for (rtype).Comparable, under a name. -/
def cmpF : Array Value → Sem Value := Extern.ReflectliteType.method fun t => do Extern.Rtype.noPackHeld "Comparable" t; pure (.bool (← typeInfo t).comparable)
theorem isComparable (w : World) : (cmpF #[.agg #[.pointer (some ⟨1, 168, none⟩)]]).run Tryz.prog w = .ok (.bool true) w := by kernel_rfl
theorem isMethodComparable (v : Value) (w : World) : (Go.method 306 154 v "Comparable").run Tryz.prog w = .ok (148, v) w := by kernel_rfl
theorem isComp : (Tryz.prog.info? 168).map (·.comparable) = some true := by kernel_rfl
theorem isSize : (Tryz.prog.info? 194).map (·.size) = some 1 := by kernel_rfl

set_option maxRecDepth 100000 in
/-- errors.Is(x, x), x a pointer to an errors.errorString. -/
theorem is_same (a : Addr) (w : World) :
    Calls Tryz.prog 58 #[.iface 168 (.pointer (some a)), .iface 168 (.pointer (some a))] w fun e w' => e = .returned (.bool true) ∧ w' = w := by
  obtain ⟨i, hi, hcmp⟩ := Option.map_eq_some_iff.1 isComp
  obtain ⟨j, hj, hjs⟩ := Option.map_eq_some_iff.1 isSize
  have h8 := @run_callFunc_extern Tryz.prog 93 _ Extern.ReflectliteType.typeOf Tryz.func93 (by kernel_rfl) (by kernel_rfl) (by kernel_rfl) (by kernel_rfl)
  have h32 := @run_callFunc_extern Tryz.prog 148 _ cmpF Tryz.func148 (by kernel_rfl) (by kernel_rfl) (by kernel_rfl) (by kernel_rfl)
  have tT := isTypeOf
  have cT := isComparable
  have mR := isMethodComparable
  have heq := run_eql_iface_ptr_same (P := Tryz.prog) w a Tryz.underlying93 Tryz.underlying168 hi hcmp hj
  go_enter Tryz.func58, Tryz.ntmps58
  go_wp2
  refine wp_loop_rounds 1 ?_
  rw [rounds_succ]
  go_wp2
  go_ret
  exact ⟨rfl, rfl⟩

set_option maxRecDepth 100000 in
/-- errors.Is(nil, x). -/
theorem is_nil (b : Addr) (w : World) :
    Calls Tryz.prog 58 #[.nilIface, .iface 168 (.pointer (some b))] w fun e w' => e = .returned (.bool false) ∧ w' = w := by
  have hn := run_eql_iface_nil_left (P := Tryz.prog) w 168 (.pointer (some b)) Tryz.underlying93
  go_enter Tryz.func58, Tryz.ntmps58
  go_wp2
  go_ret
  exact ⟨rfl, rfl⟩
end Go.Proofs.YtmdjhoknlplecaaGreatDoor
namespace Go.Proofs.YtmdjhoknlplecaaGreatDoor
open Go.RowKit

/-- The sentinel's variable holds the pointer a. -/
def Sent (a : Addr) (w : World) : Prop := w.cell? ⟨0, 0, none⟩ = some (.iface 168 (.pointer (some a)))
theorem Sent.lt {a : Addr} {w : World} (h : Sent a w) : 0 < w.heap.size := by
  rcases Nat.lt_or_ge 0 w.heap.size with h' | h'
  · exact h'
  · unfold Sent at h; simp [World.cell?, Array.getElem?_eq_none h'] at h
theorem Sent.below {a : Addr} {w w' : World} (h : Sent a w) (hb : Below w.heap.size w w') : Sent a w' := by
  have hl := h.lt
  unfold Sent at *; rw [hb.cell (p := ⟨0, 0, none⟩) hl]; exact h



theorem divide_bad (n d : Int) (a : Addr) (w : World) (hs : Sent a w) (h : inB n d = false) :
    Calls Tryz.prog 57 #[.int .i64 n, .int .i64 d] w fun e w' => e = .returned (.tuple #[.nilIface, .iface 168 (.pointer (some a))]) ∧ ∃ m, w' = w.drewN m := by
  rw [inB_not] at h
  unfold Sent at hs
  have hc : n < 0 ∨ (0 ≤ n ∧ 99999 < n) ∨ (0 ≤ n ∧ n ≤ 99999 ∧ d < 1) ∨ (0 ≤ n ∧ n ≤ 99999 ∧ 1 ≤ d ∧ 99999 < d) := by omega
  clear h
  rcases hc with h1 | ⟨h1, h2⟩ | ⟨h1, h2, h3⟩ | ⟨h1, h2, h3, h4⟩
  all_goals
    go_enter Tryz.func57, Tryz.ntmps57
    go_wp2
    go_quiet (fail)
    go_wp2
    go_ret2
    exact ⟨rfl, _, rfl⟩

theorem divide_ok (n d : Int) (w : World) (h : inB n d = true) :
    Calls Tryz.prog 57 #[.int .i64 n, .int .i64 d] w fun e w' => e = .returned (.tuple #[.iface 133 (.agg #[.int .i64 (n / G n d), .int .i64 (d / G n d)]), .nilIface]) ∧ ∃ m, w' = w.drewN m := by
  rw [inB_iff] at h
  obtain ⟨h1, h2, h3, h4⟩ := h
  have hg := G_pos n d h3
  have hg2 := G_le n d h3
  have hz : (G n d == 0) = false := by simp; omega
  go_enter Tryz.func57, Tryz.ntmps57
  go_wp2_with (go_at_call 92; refine (gcd_impl _ _ _ h1 (by omega) (by omega) (by omega)).mono ?_; rintro e w' ⟨rfl, m, rfl⟩)
  go_quiet (fail)
  go_wp2
  go_ret2
  exact ⟨rfl, _, World.drewN_drewN _ _ _⟩
end Go.Proofs.YtmdjhoknlplecaaGreatDoor
namespace Go.Proofs.YtmdjhoknlplecaaGreatDoor
open Go.RowKit

theorem meth_below (v : Value) (w : World) : (Go.method 306 133 v "loop.example/mortiser/impl.below").run Tryz.prog w = .ok (144, v) w := by kernel_rfl
theorem meth_above (v : Value) (w : World) : (Go.method 306 133 v "loop.example/mortiser/impl.above").run Tryz.prog w = .ok (143, v) w := by kernel_rfl

theorem below_any (n d : Int) (w : World) :
    Calls Tryz.prog 144 #[.agg #[.int .i64 n, .int .i64 d]] w fun e w' => e = .returned (.int .i64 d) ∧ w' = w.alloc (.cells #[.int .i64 n, .int .i64 d] 133) := by
  go_enter Tryz.func144, Tryz.ntmps144
  go_wp2
  go_ret
  exact ⟨rfl, rfl⟩
theorem above_any (n d : Int) (w : World) :
    Calls Tryz.prog 143 #[.agg #[.int .i64 n, .int .i64 d]] w fun e w' => e = .returned (.int .i64 n) ∧ w' = w.alloc (.cells #[.int .i64 n, .int .i64 d] 133) := by
  go_enter Tryz.func143, Tryz.ntmps143
  go_wp2
  go_ret
  exact ⟨rfl, rfl⟩

theorem ratio_out (n d : Int) (w : World) (a : Addr) (hs : Sent a w) (h : inB n d = false) :
    Calls Tryz.prog 61 #[.agg #[.int .i64 n, .int .i64 d]] w fun e w' => e = .returned (.tuple #[.nilIface, .iface 168 (.pointer (some a))]) ∧ Below w.heap.size w w' := by
  go_enter Tryz.func61, Tryz.ntmps61
  go_wp2_with (go_at_call 57; refine (divide_bad _ _ a _ ?_ h).mono ?_; exact hs.below ((Below.refl _ _).alloc (Nat.le_refl _) _); rintro e w' ⟨rfl, m, rfl⟩)
  go_ret2
  exact ⟨rfl, bw_drewN (bw_alloc (bw_refl _) _) _⟩

theorem ratio_yes (n d : Int) (w : World) (h : inB n d = true) (hg : G n d = 1) :
    Calls Tryz.prog 61 #[.agg #[.int .i64 n, .int .i64 d]] w fun e w' => e = .returned (.tuple #[.iface 133 (.agg #[.int .i64 n, .int .i64 d]), .nilIface]) ∧ Below w.heap.size w w' := by
  have mB := meth_below
  have HG : Hid (G n d = 1) := hg
  have e1 : Hid (n / G n d = n) := by rw [hg]; exact Int.ediv_one n
  have e2 : Hid (d / G n d = d) := by rw [hg]; exact Int.ediv_one d
  have hne : (d != d) = false := by simp
  clear hg
  go_enter Tryz.func61, Tryz.ntmps61
  go_wp2_with (go_at_call 57; refine (divide_ok _ _ _ h).mono ?_; rintro e w' ⟨rfl, m, rfl⟩; rw [e1.out, e2.out])
  go_region_with (go_at_call 144; refine (below_any _ _ _).mono ?_; rintro e w' ⟨rfl, rfl⟩)
  all_goals go_wp2
  all_goals go_ret2
  all_goals exact ⟨rfl, by repeat (first | exact bw_refl _ | apply bw_drewN | apply bw_drew | apply bw_alloc)⟩

theorem ratio_no (n d : Int) (a : Addr) (w : World) (hs : Sent a w) (h : inB n d = true) (hg : G n d ≠ 1) :
    Calls Tryz.prog 61 #[.agg #[.int .i64 n, .int .i64 d]] w fun e w' => e = .returned (.tuple #[.nilIface, .iface 168 (.pointer (some a))]) ∧ Below w.heap.size w w' := by
  have mB := meth_below
  have hlt := hs.lt
  have h' := (inB_iff n d).1 h
  have hgp := G_pos n d h'.2.2.1
  have hne : (d / G n d != d) = true := by
    have := mt (div_self_iff d (G n d) h'.2.2.1 hgp).1 hg
    simpa using this
  unfold Sent at hs
  clear hg h' hgp
  go_enter Tryz.func61, Tryz.ntmps61
  go_wp2_with (go_at_call 57; refine (divide_ok _ _ _ h).mono ?_; rintro e w' ⟨rfl, m, rfl⟩)
  go_region_with (go_at_call 144; refine (below_any _ _ _).mono ?_; rintro e w' ⟨rfl, rfl⟩)
  all_goals go_wp2
  all_goals go_quiet (fail)
  all_goals go_wp2
  all_goals go_ret2
  all_goals exact ⟨rfl, by repeat (first | exact bw_refl _ | apply bw_drewN | apply bw_drew | apply bw_alloc)⟩

/-- An ok fraction comes back as it is. -/
theorem ratio_ok (n d : Int) (w : World) (h : okB n d = true) :
    Calls Tryz.prog 61 #[.agg #[.int .i64 n, .int .i64 d]] w fun e w' => e = .returned (.tuple #[.iface 133 (.agg #[.int .i64 n, .int .i64 d]), .nilIface]) ∧ Below w.heap.size w w' := by
  rw [okB_iff] at h
  exact ratio_yes n d w ((inB_iff n d).2 ⟨h.1, h.2.1, h.2.2.1, h.2.2.2.1⟩) h.2.2.2.2
/-- Of any other one there is the error. -/
theorem ratio_bad (n d : Int) (a : Addr) (w : World) (hs : Sent a w) (h : okB n d = false) :
    Calls Tryz.prog 61 #[.agg #[.int .i64 n, .int .i64 d]] w fun e w' => e = .returned (.tuple #[.nilIface, .iface 168 (.pointer (some a))]) ∧ Below w.heap.size w w' := by
  cases hi : inB n d
  · exact ratio_out n d w a hs hi
  · refine ratio_no n d a w hs hi fun hg => ?_
    rw [inB_iff] at hi
    rw [okB_not] at h
    exact h ⟨hi.1, hi.2.1, hi.2.2.1, hi.2.2.2, hg⟩
end Go.Proofs.YtmdjhoknlplecaaGreatDoor
namespace Go.Proofs.YtmdjhoknlplecaaGreatDoor
open Go.RowKit


theorem fracOf_bad (n d : Int) (a : Addr) (w : World) (hs : Sent a w) (h : inB n d = false) :
    Calls Tryz.prog 22 #[.int .i64 n, .int .i64 d] w fun e w' => e = .returned (.tuple #[.agg #[.int .i64 0, .int .i64 0], .bool false]) ∧ Below w.heap.size w w' := by
  have b0 : Below w.heap.size w (w.alloc (.cells #[.int .i64 0, .int .i64 0] 47)) := bw_alloc (bw_refl _) _
  have hlt := hs.lt
  have hc := hs
  unfold Sent at hc
  go_enter Tryz.func22, Tryz.ntmps22
  go_wp2_with (first
    | (go_at_call 57; refine (divide_bad _ _ a _ ?_ h).mono ?_; exact hs.below b0; rintro e w' ⟨rfl, m, rfl⟩)
    | (go_at_call 58; refine (is_same _ _).mono ?_; rintro e w' ⟨rfl, rfl⟩))
  exact bodyPost_ret (v := .tuple #[.agg #[.int .i64 0, .int .i64 0], .bool false]) (by simp [results, Tryz.results22, go_sem]) rfl ⟨rfl, by repeat (first | exact bw_refl _ | apply bw_drewN | apply bw_drew | apply bw_alloc | refine bw_set ?_ (by simp) _)⟩

theorem fracOf_ok (n d : Int) (a : Addr) (w : World) (hs : Sent a w) (h : inB n d = true) :
    Calls Tryz.prog 22 #[.int .i64 n, .int .i64 d] w fun e w' => e = .returned (.tuple #[.agg #[.int .i64 (n / G n d), .int .i64 (d / G n d)], .bool true]) ∧ Below w.heap.size w w' := by
  have mB := meth_below
  have mA := meth_above
  have b0 : Below w.heap.size w (w.alloc (.cells #[.int .i64 0, .int .i64 0] 47)) := bw_alloc (bw_refl _) _
  have hlt := hs.lt
  have hc := hs
  unfold Sent at hc
  go_enter Tryz.func22, Tryz.ntmps22
  go_wp2_with (first
    | (go_at_call 57; refine (divide_ok _ _ _ h).mono ?_; rintro e w' ⟨rfl, m, rfl⟩)
    | (go_at_call 58; refine (is_nil _ _).mono ?_; rintro e w' ⟨rfl, rfl⟩)
    | (go_at_call 143; refine (above_any _ _ _).mono ?_; rintro e w' ⟨rfl, rfl⟩)
    | (go_at_call 144; refine (below_any _ _ _).mono ?_; rintro e w' ⟨rfl, rfl⟩))
  exact bodyPost_ret (v := .tuple #[.agg #[.int .i64 (n / G n d), .int .i64 (d / G n d)], .bool true]) (by simp [results, Tryz.results22, go_sem]) rfl ⟨rfl, by repeat (first | exact bw_refl _ | apply bw_drewN | apply bw_drew | apply bw_alloc | refine bw_set ?_ (by simp) _)⟩

theorem mul_bd (x y : Int) (h1 : 0 ≤ x) (h2 : x ≤ 99999) (h3 : 0 ≤ y) (h4 : y ≤ 99999) : 0 ≤ x * y ∧ x * y ≤ 9999800001 := by
  refine ⟨Int.mul_nonneg h1 h3, ?_⟩
  have := Int.mul_le_mul h2 h4 h3 (by omega)
  omega

theorem cross_any (n d m b : Int) (w : World) (h1 : 0 ≤ n) (h2 : n ≤ 99999) (h3 : 0 ≤ b) (h4 : b ≤ 99999) :
    Calls Tryz.prog 63 #[.iface 133 (.agg #[.int .i64 n, .int .i64 d]), .iface 133 (.agg #[.int .i64 m, .int .i64 b])] w fun e w' => e = .returned (.int .i64 (n * b)) ∧ Below w.heap.size w w' := by
  have mB := meth_below
  have mA := meth_above
  obtain ⟨k1, k2⟩ := mul_bd n b h1 h2 h3 h4
  go_enter Tryz.func63, Tryz.ntmps63
  go_wp2_with (first
    | (go_at_call 143; refine (above_any _ _ _).mono ?_; rintro e w' ⟨rfl, rfl⟩)
    | (go_at_call 144; refine (below_any _ _ _).mono ?_; rintro e w' ⟨rfl, rfl⟩))
  go_ret
  exact ⟨rfl, by repeat (first | exact bw_refl _ | apply bw_drewN | apply bw_drew | apply bw_alloc | refine bw_set ?_ (by simp) _)⟩

theorem compare_any (x y : Int) (w : World) :
    Calls Tryz.prog 62 #[.int .i64 x, .int .i64 y] w fun e w' => e = .returned (.int .i64 (cmpI x y)) ∧ Below w.heap.size w w' := by
  have hc : x < y ∨ (¬ x < y ∧ y < x) ∨ (¬ x < y ∧ ¬ y < x) := by omega
  rcases hc with h1 | ⟨h1, h2⟩ | ⟨h1, h2⟩
  · have e : Hid (cmpI x y = -1) := by unfold cmpI; rw [if_pos h1]; rfl
    go_enter Tryz.func62, Tryz.ntmps62
    go_wp2
    go_ret
    exact ⟨ret_int e.out.symm, bw_refl _⟩
  · have e : Hid (cmpI x y = 1) := by unfold cmpI; rw [if_neg h1, if_pos h2]; rfl
    go_enter Tryz.func62, Tryz.ntmps62
    go_wp2
    go_ret
    exact ⟨ret_int e.out.symm, bw_refl _⟩
  · have e : Hid (cmpI x y = 0) := by unfold cmpI; rw [if_neg h1, if_neg h2]; rfl
    go_enter Tryz.func62, Tryz.ntmps62
    go_wp2
    go_ret
    exact ⟨ret_int e.out.symm, bw_refl _⟩

/-- What FracCmp answers. -/
def cmpV (n d m b : Int) : Int := if okB n d && okB m b then cmpI (n * b) (m * d) else 2

theorem fracCmp_left (n d m b : Int) (a : Addr) (w : World) (hs : Sent a w) (h : okB n d = false) :
    Calls Tryz.prog 24 #[.agg #[.int .i64 n, .int .i64 d], .agg #[.int .i64 m, .int .i64 b]] w fun e w' => e = .returned (.int .i64 2) ∧ Below w.heap.size w w' := by
  have b0 : Below w.heap.size w ((w.alloc (.cells #[.int .i64 n, .int .i64 d] 47)).alloc (.cells #[.int .i64 m, .int .i64 b] 47)) := bw_alloc (bw_alloc (bw_refl _) _) _
  go_enter Tryz.func24, Tryz.ntmps24
  go_wp2_with (first
    | (go_at_call 61; refine (ratio_bad _ _ a _ ?_ h).mono ?_; exact hs.below b0; rintro e w' ⟨rfl, hb⟩; have hs1 := hs.below (bw_trans b0 hb); unfold Sent at hs1)
    | (go_at_call 58; refine (is_same _ _).mono ?_; rintro e w' ⟨rfl, rfl⟩))
  go_ret
  exact ⟨rfl, bw_trans b0 hb⟩
end Go.Proofs.YtmdjhoknlplecaaGreatDoor
namespace Go.Proofs.YtmdjhoknlplecaaGreatDoor
open Go.RowKit

theorem fracCmp_right (n d m b : Int) (a : Addr) (w : World) (hs : Sent a w) (h : okB n d = true) (h2 : okB m b = false) :
    Calls Tryz.prog 24 #[.agg #[.int .i64 n, .int .i64 d], .agg #[.int .i64 m, .int .i64 b]] w fun e w' => e = .returned (.int .i64 2) ∧ Below w.heap.size w w' := by
  have b0 : Below w.heap.size w ((w.alloc (.cells #[.int .i64 n, .int .i64 d] 47)).alloc (.cells #[.int .i64 m, .int .i64 b] 47)) := bw_alloc (bw_alloc (bw_refl _) _) _
  go_enter Tryz.func24, Tryz.ntmps24
  go_wp2_with fail
  refine (ratio_ok _ _ _ h).mono ?_
  rintro e w1 ⟨rfl, hb⟩
  have hs1 := hs.below (bw_trans b0 hb)
  obtain ⟨hc1, hf1⟩ := bcell hb
  have HB : Hid (Below w.heap.size w w1) := bw_trans b0 hb
  have hs2 := hs1
  unfold Sent at hs1
  go_wp2_with (go_at_call 58; refine (is_nil _ _).mono ?_; rintro e w' ⟨rfl, rfl⟩)
  refine (ratio_bad _ _ a _ hs2 h2).mono ?_
  rintro e w2 ⟨rfl, hb2⟩
  have hs3 := hs2.below hb2
  unfold Sent at hs3
  go_wp2_with (go_at_call 58; refine (is_same _ _).mono ?_; rintro e w' ⟨rfl, rfl⟩)
  go_ret
  exact ⟨rfl, bw_trans HB.out hb2⟩

theorem fracCmp_both (n d m b : Int) (a : Addr) (w : World) (hs : Sent a w) (h : okB n d = true) (h2 : okB m b = true) :
    Calls Tryz.prog 24 #[.agg #[.int .i64 n, .int .i64 d], .agg #[.int .i64 m, .int .i64 b]] w fun e w' => e = .returned (.int .i64 (cmpI (n * b) (m * d))) ∧ Below w.heap.size w w' := by
  have b0 : Below w.heap.size w ((w.alloc (.cells #[.int .i64 n, .int .i64 d] 47)).alloc (.cells #[.int .i64 m, .int .i64 b] 47)) := bw_alloc (bw_alloc (bw_refl _) _) _
  have k1 := (okB_iff n d).1 h
  have k2 := (okB_iff m b).1 h2
  go_enter Tryz.func24, Tryz.ntmps24
  go_wp2_with fail
  refine (ratio_ok _ _ _ h).mono ?_
  rintro e w1 ⟨rfl, hb⟩
  have hs1 := hs.below (bw_trans b0 hb)
  obtain ⟨hc1, hf1⟩ := bcell hb
  have HB : Hid (Below w.heap.size w w1) := bw_trans b0 hb
  have hs2 := hs1
  unfold Sent at hs1
  go_wp2_with (go_at_call 58; refine (is_nil _ _).mono ?_; rintro e w' ⟨rfl, rfl⟩)
  refine (ratio_ok _ _ _ h2).mono ?_
  rintro e w2 ⟨rfl, hb2⟩
  have hs3 := hs2.below hb2
  unfold Sent at hs3
  have HB2 : Hid (Below w.heap.size w w2) := bw_trans HB.out hb2
  clear hb hb2 hc1 hf1 hs1 HB
  go_wp2_with (go_at_call 58; refine (is_nil _ _).mono ?_; rintro e w' ⟨rfl, rfl⟩)
  refine (cross_any n d m b _ k1.1 k1.2.1 (by omega) k2.2.2.2.1).mono ?_
  rintro e w3 ⟨rfl, hb3⟩
  go_wp2_with fail
  refine (cross_any m b n d _ k2.1 k2.2.1 (by omega) k1.2.2.2.1).mono ?_
  rintro e w4 ⟨rfl, hb4⟩
  go_wp2_with fail
  refine (compare_any _ _ _).mono ?_
  rintro e w5 ⟨rfl, hb5⟩
  go_wp2_with fail
  go_ret
  exact ⟨rfl, bw_trans (bw_trans (bw_trans HB2.out hb3) hb4) hb5⟩

/-- FracCmp at every two fractions. -/
theorem fracCmp_any (n d m b : Int) (a : Addr) (w : World) (hs : Sent a w) :
    Calls Tryz.prog 24 #[.agg #[.int .i64 n, .int .i64 d], .agg #[.int .i64 m, .int .i64 b]] w fun e w' => e = .returned (.int .i64 (cmpV n d m b)) ∧ Below w.heap.size w w' := by
  unfold cmpV
  cases h : okB n d
  · exact fracCmp_left n d m b a w hs h
  · cases h2 : okB m b
    · exact fracCmp_right n d m b a w hs h h2
    · exact fracCmp_both n d m b a w hs h h2
/-- FracOf at every two numbers. -/
theorem fracOf_any (n d : Int) (a : Addr) (w : World) (hs : Sent a w) :
    Calls Tryz.prog 22 #[.int .i64 n, .int .i64 d] w fun e w' => e = .returned (.tuple #[.agg #[.int .i64 (ofN n d), .int .i64 (ofD n d)], .bool (inB n d)]) ∧ Below w.heap.size w w' := by
  unfold ofN ofD
  cases h : inB n d
  · exact fracOf_bad n d a w hs h
  · exact fracOf_ok n d a w hs h
end Go.Proofs.YtmdjhoknlplecaaGreatDoor
namespace Go.Proofs.YtmdjhoknlplecaaGreatDoor
open Go.RowKit Go.Sort

theorem cellB {W w : World} {a : Addr} {v : Value} (J : Below W.heap.size W w) (h : W.cell? a = some v) : w.cell? a = some v := by
  rw [J.cell (World.block_lt_of_cell? _ _ h)]; exact h
theorem cellS2 {W : World} {p m n : Nat} {x y v : Value} {a : Addr} (h : W.cell? a = some v) (hb : a.block ≠ p) : ((W.setCell ⟨p, m, none⟩ x).setCell ⟨p, n, none⟩ y).cell? a = some v := by
  rw [← h]
  refine World.cell?_of_block (w := W) ?_
  rw [Below.heap_setCell _ _ _ _ (by show a.block ≠ p; exact hb), Below.heap_setCell _ _ _ _ (by show a.block ≠ p; exact hb)]
theorem setF2 {w : World} {b : Nat} {x0 x1 u0 u1 : Value} {t : TypeId} (h : w.heap[b]? = some (.cells #[x0, x1] t (0, 0))) : ((w.setCell ⟨b, 0, none⟩ u0).setCell ⟨b, 1, none⟩ u1).heap[b]? = some (.cells #[u0, u1] t (0, 0)) := by
  simp [World.setCell, Array.getElem?_modify, h]
theorem cB4 {W w : World} {a0 a1 a2 a3 : Addr} {v0 v1 v2 v3 : Value} (J : Below W.heap.size W w) (h : W.cell? a0 = some v0 ∧ W.cell? a1 = some v1 ∧ W.cell? a2 = some v2 ∧ W.cell? a3 = some v3) : w.cell? a0 = some v0 ∧ w.cell? a1 = some v1 ∧ w.cell? a2 = some v2 ∧ w.cell? a3 = some v3 :=
  ⟨cellB J h.1, cellB J h.2.1, cellB J h.2.2.1, cellB J h.2.2.2⟩
theorem cA4 {W : World} {o : Obj} {a0 a1 a2 a3 : Addr} {v0 v1 v2 v3 : Value} (h : W.cell? a0 = some v0 ∧ W.cell? a1 = some v1 ∧ W.cell? a2 = some v2 ∧ W.cell? a3 = some v3) : (W.alloc o).cell? a0 = some v0 ∧ (W.alloc o).cell? a1 = some v1 ∧ (W.alloc o).cell? a2 = some v2 ∧ (W.alloc o).cell? a3 = some v3 := cB4 (bw_alloc (bw_refl _) _) h
theorem cS4 {W : World} {p m n : Nat} {x y : Value} {a0 a1 a2 a3 : Addr} {v0 v1 v2 v3 : Value} (h : W.cell? a0 = some v0 ∧ W.cell? a1 = some v1 ∧ W.cell? a2 = some v2 ∧ W.cell? a3 = some v3) (n0 : a0.block ≠ p) (n1 : a1.block ≠ p) (n2 : a2.block ≠ p) (n3 : a3.block ≠ p) : ((W.setCell ⟨p, m, none⟩ x).setCell ⟨p, n, none⟩ y).cell? a0 = some v0 ∧ ((W.setCell ⟨p, m, none⟩ x).setCell ⟨p, n, none⟩ y).cell? a1 = some v1 ∧ ((W.setCell ⟨p, m, none⟩ x).setCell ⟨p, n, none⟩ y).cell? a2 = some v2 ∧ ((W.setCell ⟨p, m, none⟩ x).setCell ⟨p, n, none⟩ y).cell? a3 = some v3 :=
  ⟨cellS2 h.1 n0, cellS2 h.2.1 n1, cellS2 h.2.2.1 n2, cellS2 h.2.2.2 n3⟩
theorem cT4 {W : World} {p m n k l : Nat} {x y z u : Value} {a0 a1 a2 a3 : Addr} {v0 v1 v2 v3 : Value} (h : W.cell? a0 = some v0 ∧ W.cell? a1 = some v1 ∧ W.cell? a2 = some v2 ∧ W.cell? a3 = some v3) (n0 : a0.block ≠ p) (n1 : a1.block ≠ p) (n2 : a2.block ≠ p) (n3 : a3.block ≠ p) : ((((W.setCell ⟨p, m, none⟩ x).setCell ⟨p, n, none⟩ y).setCell ⟨p, k, none⟩ z).setCell ⟨p, l, none⟩ u).cell? a0 = some v0 ∧ ((((W.setCell ⟨p, m, none⟩ x).setCell ⟨p, n, none⟩ y).setCell ⟨p, k, none⟩ z).setCell ⟨p, l, none⟩ u).cell? a1 = some v1 ∧ ((((W.setCell ⟨p, m, none⟩ x).setCell ⟨p, n, none⟩ y).setCell ⟨p, k, none⟩ z).setCell ⟨p, l, none⟩ u).cell? a2 = some v2 ∧ ((((W.setCell ⟨p, m, none⟩ x).setCell ⟨p, n, none⟩ y).setCell ⟨p, k, none⟩ z).setCell ⟨p, l, none⟩ u).cell? a3 = some v3 := cS4 (cS4 h n0 n1 n2 n3) n0 n1 n2 n3
theorem cB8 {W w : World} {a0 a1 a2 a3 a4 a5 a6 a7 : Addr} {v0 v1 v2 v3 v4 v5 v6 v7 : Value} (J : Below W.heap.size W w) (h : W.cell? a0 = some v0 ∧ W.cell? a1 = some v1 ∧ W.cell? a2 = some v2 ∧ W.cell? a3 = some v3 ∧ W.cell? a4 = some v4 ∧ W.cell? a5 = some v5 ∧ W.cell? a6 = some v6 ∧ W.cell? a7 = some v7) : w.cell? a0 = some v0 ∧ w.cell? a1 = some v1 ∧ w.cell? a2 = some v2 ∧ w.cell? a3 = some v3 ∧ w.cell? a4 = some v4 ∧ w.cell? a5 = some v5 ∧ w.cell? a6 = some v6 ∧ w.cell? a7 = some v7 :=
  ⟨cellB J h.1, cellB J h.2.1, cellB J h.2.2.1, cellB J h.2.2.2.1, cellB J h.2.2.2.2.1, cellB J h.2.2.2.2.2.1, cellB J h.2.2.2.2.2.2.1, cellB J h.2.2.2.2.2.2.2⟩
theorem cA8 {W : World} {o : Obj} {a0 a1 a2 a3 a4 a5 a6 a7 : Addr} {v0 v1 v2 v3 v4 v5 v6 v7 : Value} (h : W.cell? a0 = some v0 ∧ W.cell? a1 = some v1 ∧ W.cell? a2 = some v2 ∧ W.cell? a3 = some v3 ∧ W.cell? a4 = some v4 ∧ W.cell? a5 = some v5 ∧ W.cell? a6 = some v6 ∧ W.cell? a7 = some v7) : (W.alloc o).cell? a0 = some v0 ∧ (W.alloc o).cell? a1 = some v1 ∧ (W.alloc o).cell? a2 = some v2 ∧ (W.alloc o).cell? a3 = some v3 ∧ (W.alloc o).cell? a4 = some v4 ∧ (W.alloc o).cell? a5 = some v5 ∧ (W.alloc o).cell? a6 = some v6 ∧ (W.alloc o).cell? a7 = some v7 := cB8 (bw_alloc (bw_refl _) _) h
theorem cS8 {W : World} {p m n : Nat} {x y : Value} {a0 a1 a2 a3 a4 a5 a6 a7 : Addr} {v0 v1 v2 v3 v4 v5 v6 v7 : Value} (h : W.cell? a0 = some v0 ∧ W.cell? a1 = some v1 ∧ W.cell? a2 = some v2 ∧ W.cell? a3 = some v3 ∧ W.cell? a4 = some v4 ∧ W.cell? a5 = some v5 ∧ W.cell? a6 = some v6 ∧ W.cell? a7 = some v7) (n0 : a0.block ≠ p) (n1 : a1.block ≠ p) (n2 : a2.block ≠ p) (n3 : a3.block ≠ p) (n4 : a4.block ≠ p) (n5 : a5.block ≠ p) (n6 : a6.block ≠ p) (n7 : a7.block ≠ p) : ((W.setCell ⟨p, m, none⟩ x).setCell ⟨p, n, none⟩ y).cell? a0 = some v0 ∧ ((W.setCell ⟨p, m, none⟩ x).setCell ⟨p, n, none⟩ y).cell? a1 = some v1 ∧ ((W.setCell ⟨p, m, none⟩ x).setCell ⟨p, n, none⟩ y).cell? a2 = some v2 ∧ ((W.setCell ⟨p, m, none⟩ x).setCell ⟨p, n, none⟩ y).cell? a3 = some v3 ∧ ((W.setCell ⟨p, m, none⟩ x).setCell ⟨p, n, none⟩ y).cell? a4 = some v4 ∧ ((W.setCell ⟨p, m, none⟩ x).setCell ⟨p, n, none⟩ y).cell? a5 = some v5 ∧ ((W.setCell ⟨p, m, none⟩ x).setCell ⟨p, n, none⟩ y).cell? a6 = some v6 ∧ ((W.setCell ⟨p, m, none⟩ x).setCell ⟨p, n, none⟩ y).cell? a7 = some v7 :=
  ⟨cellS2 h.1 n0, cellS2 h.2.1 n1, cellS2 h.2.2.1 n2, cellS2 h.2.2.2.1 n3, cellS2 h.2.2.2.2.1 n4, cellS2 h.2.2.2.2.2.1 n5, cellS2 h.2.2.2.2.2.2.1 n6, cellS2 h.2.2.2.2.2.2.2 n7⟩
theorem cT8 {W : World} {p m n k l : Nat} {x y z u : Value} {a0 a1 a2 a3 a4 a5 a6 a7 : Addr} {v0 v1 v2 v3 v4 v5 v6 v7 : Value} (h : W.cell? a0 = some v0 ∧ W.cell? a1 = some v1 ∧ W.cell? a2 = some v2 ∧ W.cell? a3 = some v3 ∧ W.cell? a4 = some v4 ∧ W.cell? a5 = some v5 ∧ W.cell? a6 = some v6 ∧ W.cell? a7 = some v7) (n0 : a0.block ≠ p) (n1 : a1.block ≠ p) (n2 : a2.block ≠ p) (n3 : a3.block ≠ p) (n4 : a4.block ≠ p) (n5 : a5.block ≠ p) (n6 : a6.block ≠ p) (n7 : a7.block ≠ p) : ((((W.setCell ⟨p, m, none⟩ x).setCell ⟨p, n, none⟩ y).setCell ⟨p, k, none⟩ z).setCell ⟨p, l, none⟩ u).cell? a0 = some v0 ∧ ((((W.setCell ⟨p, m, none⟩ x).setCell ⟨p, n, none⟩ y).setCell ⟨p, k, none⟩ z).setCell ⟨p, l, none⟩ u).cell? a1 = some v1 ∧ ((((W.setCell ⟨p, m, none⟩ x).setCell ⟨p, n, none⟩ y).setCell ⟨p, k, none⟩ z).setCell ⟨p, l, none⟩ u).cell? a2 = some v2 ∧ ((((W.setCell ⟨p, m, none⟩ x).setCell ⟨p, n, none⟩ y).setCell ⟨p, k, none⟩ z).setCell ⟨p, l, none⟩ u).cell? a3 = some v3 ∧ ((((W.setCell ⟨p, m, none⟩ x).setCell ⟨p, n, none⟩ y).setCell ⟨p, k, none⟩ z).setCell ⟨p, l, none⟩ u).cell? a4 = some v4 ∧ ((((W.setCell ⟨p, m, none⟩ x).setCell ⟨p, n, none⟩ y).setCell ⟨p, k, none⟩ z).setCell ⟨p, l, none⟩ u).cell? a5 = some v5 ∧ ((((W.setCell ⟨p, m, none⟩ x).setCell ⟨p, n, none⟩ y).setCell ⟨p, k, none⟩ z).setCell ⟨p, l, none⟩ u).cell? a6 = some v6 ∧ ((((W.setCell ⟨p, m, none⟩ x).setCell ⟨p, n, none⟩ y).setCell ⟨p, k, none⟩ z).setCell ⟨p, l, none⟩ u).cell? a7 = some v7 := cS8 (cS8 h n0 n1 n2 n3 n4 n5 n6 n7) n0 n1 n2 n3 n4 n5 n6 n7
theorem cB9 {W w : World} {a0 a1 a2 a3 a4 a5 a6 a7 a8 : Addr} {v0 v1 v2 v3 v4 v5 v6 v7 v8 : Value} (J : Below W.heap.size W w) (h : W.cell? a0 = some v0 ∧ W.cell? a1 = some v1 ∧ W.cell? a2 = some v2 ∧ W.cell? a3 = some v3 ∧ W.cell? a4 = some v4 ∧ W.cell? a5 = some v5 ∧ W.cell? a6 = some v6 ∧ W.cell? a7 = some v7 ∧ W.cell? a8 = some v8) : w.cell? a0 = some v0 ∧ w.cell? a1 = some v1 ∧ w.cell? a2 = some v2 ∧ w.cell? a3 = some v3 ∧ w.cell? a4 = some v4 ∧ w.cell? a5 = some v5 ∧ w.cell? a6 = some v6 ∧ w.cell? a7 = some v7 ∧ w.cell? a8 = some v8 :=
  ⟨cellB J h.1, cellB J h.2.1, cellB J h.2.2.1, cellB J h.2.2.2.1, cellB J h.2.2.2.2.1, cellB J h.2.2.2.2.2.1, cellB J h.2.2.2.2.2.2.1, cellB J h.2.2.2.2.2.2.2.1, cellB J h.2.2.2.2.2.2.2.2⟩
theorem cA9 {W : World} {o : Obj} {a0 a1 a2 a3 a4 a5 a6 a7 a8 : Addr} {v0 v1 v2 v3 v4 v5 v6 v7 v8 : Value} (h : W.cell? a0 = some v0 ∧ W.cell? a1 = some v1 ∧ W.cell? a2 = some v2 ∧ W.cell? a3 = some v3 ∧ W.cell? a4 = some v4 ∧ W.cell? a5 = some v5 ∧ W.cell? a6 = some v6 ∧ W.cell? a7 = some v7 ∧ W.cell? a8 = some v8) : (W.alloc o).cell? a0 = some v0 ∧ (W.alloc o).cell? a1 = some v1 ∧ (W.alloc o).cell? a2 = some v2 ∧ (W.alloc o).cell? a3 = some v3 ∧ (W.alloc o).cell? a4 = some v4 ∧ (W.alloc o).cell? a5 = some v5 ∧ (W.alloc o).cell? a6 = some v6 ∧ (W.alloc o).cell? a7 = some v7 ∧ (W.alloc o).cell? a8 = some v8 := cB9 (bw_alloc (bw_refl _) _) h
theorem cS9 {W : World} {p m n : Nat} {x y : Value} {a0 a1 a2 a3 a4 a5 a6 a7 a8 : Addr} {v0 v1 v2 v3 v4 v5 v6 v7 v8 : Value} (h : W.cell? a0 = some v0 ∧ W.cell? a1 = some v1 ∧ W.cell? a2 = some v2 ∧ W.cell? a3 = some v3 ∧ W.cell? a4 = some v4 ∧ W.cell? a5 = some v5 ∧ W.cell? a6 = some v6 ∧ W.cell? a7 = some v7 ∧ W.cell? a8 = some v8) (n0 : a0.block ≠ p) (n1 : a1.block ≠ p) (n2 : a2.block ≠ p) (n3 : a3.block ≠ p) (n4 : a4.block ≠ p) (n5 : a5.block ≠ p) (n6 : a6.block ≠ p) (n7 : a7.block ≠ p) (n8 : a8.block ≠ p) : ((W.setCell ⟨p, m, none⟩ x).setCell ⟨p, n, none⟩ y).cell? a0 = some v0 ∧ ((W.setCell ⟨p, m, none⟩ x).setCell ⟨p, n, none⟩ y).cell? a1 = some v1 ∧ ((W.setCell ⟨p, m, none⟩ x).setCell ⟨p, n, none⟩ y).cell? a2 = some v2 ∧ ((W.setCell ⟨p, m, none⟩ x).setCell ⟨p, n, none⟩ y).cell? a3 = some v3 ∧ ((W.setCell ⟨p, m, none⟩ x).setCell ⟨p, n, none⟩ y).cell? a4 = some v4 ∧ ((W.setCell ⟨p, m, none⟩ x).setCell ⟨p, n, none⟩ y).cell? a5 = some v5 ∧ ((W.setCell ⟨p, m, none⟩ x).setCell ⟨p, n, none⟩ y).cell? a6 = some v6 ∧ ((W.setCell ⟨p, m, none⟩ x).setCell ⟨p, n, none⟩ y).cell? a7 = some v7 ∧ ((W.setCell ⟨p, m, none⟩ x).setCell ⟨p, n, none⟩ y).cell? a8 = some v8 :=
  ⟨cellS2 h.1 n0, cellS2 h.2.1 n1, cellS2 h.2.2.1 n2, cellS2 h.2.2.2.1 n3, cellS2 h.2.2.2.2.1 n4, cellS2 h.2.2.2.2.2.1 n5, cellS2 h.2.2.2.2.2.2.1 n6, cellS2 h.2.2.2.2.2.2.2.1 n7, cellS2 h.2.2.2.2.2.2.2.2 n8⟩
theorem cT9 {W : World} {p m n k l : Nat} {x y z u : Value} {a0 a1 a2 a3 a4 a5 a6 a7 a8 : Addr} {v0 v1 v2 v3 v4 v5 v6 v7 v8 : Value} (h : W.cell? a0 = some v0 ∧ W.cell? a1 = some v1 ∧ W.cell? a2 = some v2 ∧ W.cell? a3 = some v3 ∧ W.cell? a4 = some v4 ∧ W.cell? a5 = some v5 ∧ W.cell? a6 = some v6 ∧ W.cell? a7 = some v7 ∧ W.cell? a8 = some v8) (n0 : a0.block ≠ p) (n1 : a1.block ≠ p) (n2 : a2.block ≠ p) (n3 : a3.block ≠ p) (n4 : a4.block ≠ p) (n5 : a5.block ≠ p) (n6 : a6.block ≠ p) (n7 : a7.block ≠ p) (n8 : a8.block ≠ p) : ((((W.setCell ⟨p, m, none⟩ x).setCell ⟨p, n, none⟩ y).setCell ⟨p, k, none⟩ z).setCell ⟨p, l, none⟩ u).cell? a0 = some v0 ∧ ((((W.setCell ⟨p, m, none⟩ x).setCell ⟨p, n, none⟩ y).setCell ⟨p, k, none⟩ z).setCell ⟨p, l, none⟩ u).cell? a1 = some v1 ∧ ((((W.setCell ⟨p, m, none⟩ x).setCell ⟨p, n, none⟩ y).setCell ⟨p, k, none⟩ z).setCell ⟨p, l, none⟩ u).cell? a2 = some v2 ∧ ((((W.setCell ⟨p, m, none⟩ x).setCell ⟨p, n, none⟩ y).setCell ⟨p, k, none⟩ z).setCell ⟨p, l, none⟩ u).cell? a3 = some v3 ∧ ((((W.setCell ⟨p, m, none⟩ x).setCell ⟨p, n, none⟩ y).setCell ⟨p, k, none⟩ z).setCell ⟨p, l, none⟩ u).cell? a4 = some v4 ∧ ((((W.setCell ⟨p, m, none⟩ x).setCell ⟨p, n, none⟩ y).setCell ⟨p, k, none⟩ z).setCell ⟨p, l, none⟩ u).cell? a5 = some v5 ∧ ((((W.setCell ⟨p, m, none⟩ x).setCell ⟨p, n, none⟩ y).setCell ⟨p, k, none⟩ z).setCell ⟨p, l, none⟩ u).cell? a6 = some v6 ∧ ((((W.setCell ⟨p, m, none⟩ x).setCell ⟨p, n, none⟩ y).setCell ⟨p, k, none⟩ z).setCell ⟨p, l, none⟩ u).cell? a7 = some v7 ∧ ((((W.setCell ⟨p, m, none⟩ x).setCell ⟨p, n, none⟩ y).setCell ⟨p, k, none⟩ z).setCell ⟨p, l, none⟩ u).cell? a8 = some v8 := cS9 (cS9 h n0 n1 n2 n3 n4 n5 n6 n7 n8) n0 n1 n2 n3 n4 n5 n6 n7 n8
theorem cB6 {W w : World} {a0 a1 a2 a3 a4 a5 : Addr} {v0 v1 v2 v3 v4 v5 : Value} (J : Below W.heap.size W w) (h : W.cell? a0 = some v0 ∧ W.cell? a1 = some v1 ∧ W.cell? a2 = some v2 ∧ W.cell? a3 = some v3 ∧ W.cell? a4 = some v4 ∧ W.cell? a5 = some v5) : w.cell? a0 = some v0 ∧ w.cell? a1 = some v1 ∧ w.cell? a2 = some v2 ∧ w.cell? a3 = some v3 ∧ w.cell? a4 = some v4 ∧ w.cell? a5 = some v5 :=
  ⟨cellB J h.1, cellB J h.2.1, cellB J h.2.2.1, cellB J h.2.2.2.1, cellB J h.2.2.2.2.1, cellB J h.2.2.2.2.2⟩
theorem cA6 {W : World} {o : Obj} {a0 a1 a2 a3 a4 a5 : Addr} {v0 v1 v2 v3 v4 v5 : Value} (h : W.cell? a0 = some v0 ∧ W.cell? a1 = some v1 ∧ W.cell? a2 = some v2 ∧ W.cell? a3 = some v3 ∧ W.cell? a4 = some v4 ∧ W.cell? a5 = some v5) : (W.alloc o).cell? a0 = some v0 ∧ (W.alloc o).cell? a1 = some v1 ∧ (W.alloc o).cell? a2 = some v2 ∧ (W.alloc o).cell? a3 = some v3 ∧ (W.alloc o).cell? a4 = some v4 ∧ (W.alloc o).cell? a5 = some v5 := cB6 (bw_alloc (bw_refl _) _) h
theorem cS6 {W : World} {p m n : Nat} {x y : Value} {a0 a1 a2 a3 a4 a5 : Addr} {v0 v1 v2 v3 v4 v5 : Value} (h : W.cell? a0 = some v0 ∧ W.cell? a1 = some v1 ∧ W.cell? a2 = some v2 ∧ W.cell? a3 = some v3 ∧ W.cell? a4 = some v4 ∧ W.cell? a5 = some v5) (n0 : a0.block ≠ p) (n1 : a1.block ≠ p) (n2 : a2.block ≠ p) (n3 : a3.block ≠ p) (n4 : a4.block ≠ p) (n5 : a5.block ≠ p) : ((W.setCell ⟨p, m, none⟩ x).setCell ⟨p, n, none⟩ y).cell? a0 = some v0 ∧ ((W.setCell ⟨p, m, none⟩ x).setCell ⟨p, n, none⟩ y).cell? a1 = some v1 ∧ ((W.setCell ⟨p, m, none⟩ x).setCell ⟨p, n, none⟩ y).cell? a2 = some v2 ∧ ((W.setCell ⟨p, m, none⟩ x).setCell ⟨p, n, none⟩ y).cell? a3 = some v3 ∧ ((W.setCell ⟨p, m, none⟩ x).setCell ⟨p, n, none⟩ y).cell? a4 = some v4 ∧ ((W.setCell ⟨p, m, none⟩ x).setCell ⟨p, n, none⟩ y).cell? a5 = some v5 :=
  ⟨cellS2 h.1 n0, cellS2 h.2.1 n1, cellS2 h.2.2.1 n2, cellS2 h.2.2.2.1 n3, cellS2 h.2.2.2.2.1 n4, cellS2 h.2.2.2.2.2 n5⟩
end Go.Proofs.YtmdjhoknlplecaaGreatDoor
namespace Go.Proofs.YtmdjhoknlplecaaGreatDoor
open Go.RowKit Go.Sort

theorem square_ok (ax ay bx b_y : Int) (w : World) (ha : ptB ax ay = true) (hb : ptB bx b_y = true) :
    Calls Tryz.prog 85 #[.agg #[.int .i64 ax, .int .i64 ay], .agg #[.int .i64 bx, .int .i64 b_y]] w fun e w' => e = .returned (.int .i64 (dt ax ay bx b_y bx b_y)) ∧ Below w.heap.size w w' := by
  go_enter Tryz.func85, Tryz.ntmps85
  go_wp2_with fail
  refine (along_any _ _ _ _ _ _ _ ha hb hb).mono ?_
  rintro e w1 ⟨rfl, J⟩
  obtain ⟨hc, hf⟩ := bcell J
  go_wp2_with fail
  go_ret
  exact ⟨rfl, bw_trans (by repeat (first | exact bw_refl _ | assumption | apply bw_drewN | apply bw_drew | apply bw_alloc | refine bw_set ?_ (by simp) _)) J⟩
theorem grid_any (n d : Int) (ad : Addr) (w : World) (hs : Sent ad w) :
    Calls Tryz.prog 69 #[.int .i64 n, .int .i64 d] w fun e w' => e = .returned (.agg #[.int .i64 (ofN n d), .int .i64 (ofD n d)]) ∧ Below w.heap.size w w' := by
  have b0 : Below w.heap.size w (w.alloc (.cells #[.int .i64 0, .int .i64 0] 47)) := bw_alloc (bw_refl _) _
  go_enter Tryz.func69, Tryz.ntmps69
  go_wp2_with fail
  refine (fracOf_any _ _ ad _ (hs.below b0)).mono ?_
  rintro e w1 ⟨rfl, J⟩
  obtain ⟨hc, hf⟩ := bcell J
  have HB : Hid (Below w.heap.size w w1) := bw_trans (by repeat (first | exact bw_refl _ | assumption | apply bw_drewN | apply bw_drew | apply bw_alloc | refine bw_set ?_ (by simp) _)) J
  have F := keep J (heap_new _ _)
  have hz' := blk_lt F
  have F2 : (((w1.setCell ⟨w.heap.size, 0, none⟩ (.int .i64 (ofN n d))).setCell ⟨w.heap.size, 1, none⟩ (.int .i64 (ofD n d))).alloc (.cells #[.int .i64 (ofN n d), .int .i64 (ofD n d)] 47)).heap[w.heap.size]? = some (.cells #[.int .i64 (ofN n d), .int .i64 (ofD n d)] 47 (0, 0)) := (heap_old _ _ (by simpa [World.setCell] using hz')).trans (setF2 F)
  obtain ⟨r0, r1⟩ := blk_2 F2
  clear J F F2
  go_wp2_with fail
  exact bodyPost_ret (v := .agg #[.int .i64 (ofN n d), .int .i64 (ofD n d)]) (by simp [results, Tryz.results69, go_sem, r0, r1]) rfl ⟨rfl, by repeat (first | with_reducible exact HB.out | with_reducible refine bw_alloc ?_ _ | with_reducible refine bw_set ?_ (by dsimp only; omega) _)⟩
theorem of_one (n : Int) (h : 0 ≤ n) (h2 : n ≤ 99999) : ofN n 1 = n ∧ ofD n 1 = 1 := by
  have hi : inB n 1 = true := (inB_iff n 1).2 ⟨h, h2, by omega, by omega⟩
  unfold ofN ofD
  rw [hi, G_one]
  exact ⟨by simp, by simp⟩
theorem grid_one (n : Int) (h : 0 ≤ n) (h2 : n ≤ 99999) (ad : Addr) (w : World) (hs : Sent ad w) :
    Calls Tryz.prog 69 #[.int .i64 n, .int .i64 1] w fun e w' => e = .returned (.agg #[.int .i64 n, .int .i64 1]) ∧ Below w.heap.size w w' := by
  obtain ⟨e1, e2⟩ := of_one n h h2
  have := grid_any n 1 ad w hs
  rwa [e1, e2] at this
set_option maxHeartbeats 400000 in
theorem farFirst_ok (ax ay bx b_y px py : Int) (ad : Addr) (w : World) (h0 : Sent ad w) (gs : sgB ax ay bx b_y = true) (gp : ptB px py = true) :
    Calls Tryz.prog 106 #[.agg #[.int .i64 ax, .int .i64 ay, .int .i64 bx, .int .i64 b_y], .agg #[.int .i64 px, .int .i64 py]] w fun e w' => e = .returned (.agg #[.int .i64 (dt ax ay px py px py), .int .i64 1]) ∧ Below w.heap.size w w' := by
  obtain ⟨ha, hb, _⟩ := sg_parts gs
  have d1 := dt_self_nonneg ax ay px py
  have d2 := dt_bd ha gp gp
  have b0 : Below w.heap.size w (((w.alloc (.cells #[.int .i64 ax, .int .i64 ay, .int .i64 bx, .int .i64 b_y] 62)).alloc (.cells #[.int .i64 px, .int .i64 py] 35)).alloc (.cells #[.int .i64 0, .int .i64 0] 47)) := (by repeat (first | exact bw_refl _ | assumption | apply bw_drewN | apply bw_drew | apply bw_alloc | refine bw_set ?_ (by simp) _))
  go_enter Tryz.func106, Tryz.ntmps106
  go_wp2_with fail
  refine (square_ok _ _ _ _ _ ha gp).mono ?_
  rintro e w1 ⟨rfl, J⟩
  obtain ⟨hc, hf⟩ := bcell J
  go_wp2_with fail
  refine (grid_one _ d1 (by omega) ad _ (h0.below (bw_trans b0 J))).mono ?_
  rintro e w1 ⟨rfl, J2⟩
  replace J := bw_trans J J2
  clear hc hf J2
  obtain ⟨hc, hf⟩ := bcell J
  have HB : Hid (Below w.heap.size w w1) := bw_trans (by repeat (first | exact bw_refl _ | assumption | apply bw_drewN | apply bw_drew | apply bw_alloc | refine bw_set ?_ (by simp) _)) J
  have hz := J.size
  simp at hz
  have hz' : w.heap.size + 2 < w1.heap.size := by omega
  clear hz J
  go_wp2_with fail
  exact bodyPost_ret (v := .agg #[.int .i64 (dt ax ay px py px py), .int .i64 1]) (by simp [results, Tryz.results106, go_sem, hc]) rfl ⟨rfl, by repeat (first | with_reducible exact HB.out | refine bw_set ?_ (by dsimp only; omega) _)⟩
set_option maxHeartbeats 400000 in
theorem farLast_ok (ax ay bx b_y px py : Int) (ad : Addr) (w : World) (h0 : Sent ad w) (gs : sgB ax ay bx b_y = true) (gp : ptB px py = true) :
    Calls Tryz.prog 108 #[.agg #[.int .i64 ax, .int .i64 ay, .int .i64 bx, .int .i64 b_y], .agg #[.int .i64 px, .int .i64 py]] w fun e w' => e = .returned (.agg #[.int .i64 (dt bx b_y px py px py), .int .i64 1]) ∧ Below w.heap.size w w' := by
  obtain ⟨ha, hb, _⟩ := sg_parts gs
  have d1 := dt_self_nonneg bx b_y px py
  have d2 := dt_bd hb gp gp
  have b0 : Below w.heap.size w (((w.alloc (.cells #[.int .i64 ax, .int .i64 ay, .int .i64 bx, .int .i64 b_y] 62)).alloc (.cells #[.int .i64 px, .int .i64 py] 35)).alloc (.cells #[.int .i64 0, .int .i64 0] 47)) := (by repeat (first | exact bw_refl _ | assumption | apply bw_drewN | apply bw_drew | apply bw_alloc | refine bw_set ?_ (by simp) _))
  go_enter Tryz.func108, Tryz.ntmps108
  go_wp2_with fail
  refine (square_ok _ _ _ _ _ hb gp).mono ?_
  rintro e w1 ⟨rfl, J⟩
  obtain ⟨hc, hf⟩ := bcell J
  go_wp2_with fail
  refine (grid_one _ d1 (by omega) ad _ (h0.below (bw_trans b0 J))).mono ?_
  rintro e w1 ⟨rfl, J2⟩
  replace J := bw_trans J J2
  clear hc hf J2
  obtain ⟨hc, hf⟩ := bcell J
  have HB : Hid (Below w.heap.size w w1) := bw_trans (by repeat (first | exact bw_refl _ | assumption | apply bw_drewN | apply bw_drew | apply bw_alloc | refine bw_set ?_ (by simp) _)) J
  have hz := J.size
  simp at hz
  have hz' : w.heap.size + 2 < w1.heap.size := by omega
  clear hz J
  go_wp2_with fail
  exact bodyPost_ret (v := .agg #[.int .i64 (dt bx b_y px py px py), .int .i64 1]) (by simp [results, Tryz.results108, go_sem, hc]) rfl ⟨rfl, by repeat (first | with_reducible exact HB.out | refine bw_set ?_ (by dsimp only; omega) _)⟩
set_option maxHeartbeats 400000 in
theorem farLine_ok (ax ay bx b_y px py : Int) (ad : Addr) (w : World) (h0 : Sent ad w) (gs : sgB ax ay bx b_y = true) (gp : ptB px py = true) :
    Calls Tryz.prog 107 #[.agg #[.int .i64 ax, .int .i64 ay, .int .i64 bx, .int .i64 b_y], .agg #[.int .i64 px, .int .i64 py]] w fun e w' => e = .returned (.agg #[.int .i64 (ofN (crs ax ay bx b_y px py * crs ax ay bx b_y px py) (dt ax ay bx b_y bx b_y)), .int .i64 (ofD (crs ax ay bx b_y px py * crs ax ay bx b_y px py) (dt ax ay bx b_y bx b_y))]) ∧ Below w.heap.size w w' := by
  obtain ⟨ha, hb, _⟩ := sg_parts gs
  have d1 := crs_bd ha hb gp
  have d2 := prod_bd2 d1.1 d1.2 d1.1 d1.2
  have b0 : Below w.heap.size w (((w.alloc (.cells #[.int .i64 ax, .int .i64 ay, .int .i64 bx, .int .i64 b_y] 62)).alloc (.cells #[.int .i64 px, .int .i64 py] 35)).alloc (.cells #[.int .i64 0, .int .i64 0] 47)) := (by repeat (first | exact bw_refl _ | assumption | apply bw_drewN | apply bw_drew | apply bw_alloc | refine bw_set ?_ (by simp) _))
  go_enter Tryz.func107, Tryz.ntmps107
  go_wp2_with fail
  refine (swept_any _ _ _ _ _ _ _ ha hb gp).mono ?_
  rintro e w1 ⟨rfl, J⟩
  obtain ⟨hc, hf⟩ := bcell J
  go_wp2_with fail
  refine (square_ok _ _ _ _ _ ha hb).mono ?_
  rintro e w1 ⟨rfl, J2⟩
  replace J := bw_trans J J2
  clear hc hf J2
  obtain ⟨hc, hf⟩ := bcell J
  go_wp2_with fail
  refine (grid_any _ _ ad _ (h0.below (bw_trans b0 J))).mono ?_
  rintro e w1 ⟨rfl, J2⟩
  replace J := bw_trans J J2
  clear hc hf J2
  obtain ⟨hc, hf⟩ := bcell J
  have HB : Hid (Below w.heap.size w w1) := bw_trans (by repeat (first | exact bw_refl _ | assumption | apply bw_drewN | apply bw_drew | apply bw_alloc | refine bw_set ?_ (by simp) _)) J
  have hz := J.size
  simp at hz
  have hz' : w.heap.size + 2 < w1.heap.size := by omega
  clear hz J
  go_wp2_with fail
  exact bodyPost_ret (v := .agg #[.int .i64 (ofN (crs ax ay bx b_y px py * crs ax ay bx b_y px py) (dt ax ay bx b_y bx b_y)), .int .i64 (ofD (crs ax ay bx b_y px py * crs ax ay bx b_y px py) (dt ax ay bx b_y bx b_y))]) (by simp [results, Tryz.results107, go_sem, hc]) rfl ⟨rfl, by repeat (first | with_reducible exact HB.out | refine bw_set ?_ (by dsimp only; omega) _)⟩
theorem where_first (ax ay bx b_y px py : Int) (w : World) (gs : sgB ax ay bx b_y = true) (gp : ptB px py = true) (h : dt ax ay bx b_y px py ≤ 0) :
    Calls Tryz.prog 109 #[.agg #[.int .i64 ax, .int .i64 ay, .int .i64 bx, .int .i64 b_y], .agg #[.int .i64 px, .int .i64 py]] w fun e w' => e = .returned (.int .i64 0) ∧ Below w.heap.size w w' := by
  obtain ⟨ha, hb, _⟩ := sg_parts gs
  go_enter Tryz.func109, Tryz.ntmps109
  go_wp2_with fail
  refine (along_any _ _ _ _ _ _ _ ha hb gp).mono ?_
  rintro e w1 ⟨rfl, J⟩
  obtain ⟨hc, hf⟩ := bcell J
  go_wp2_with fail
  go_ret
  exact ⟨rfl, bw_trans (by repeat (first | exact bw_refl _ | assumption | apply bw_drewN | apply bw_drew | apply bw_alloc | refine bw_set ?_ (by simp) _)) J⟩
theorem where_last (ax ay bx b_y px py : Int) (w : World) (gs : sgB ax ay bx b_y = true) (gp : ptB px py = true) (h : ¬ dt ax ay bx b_y px py ≤ 0) (h2 : dt bx b_y ax ay px py ≤ 0) :
    Calls Tryz.prog 109 #[.agg #[.int .i64 ax, .int .i64 ay, .int .i64 bx, .int .i64 b_y], .agg #[.int .i64 px, .int .i64 py]] w fun e w' => e = .returned (.int .i64 2) ∧ Below w.heap.size w w' := by
  obtain ⟨ha, hb, _⟩ := sg_parts gs
  have h' : 0 < dt ax ay bx b_y px py := by omega
  clear h
  go_enter Tryz.func109, Tryz.ntmps109
  go_wp2_with fail
  refine (along_any _ _ _ _ _ _ _ ha hb gp).mono ?_
  rintro e w1 ⟨rfl, J⟩
  obtain ⟨hc, hf⟩ := bcell J
  go_wp2_with fail
  refine (along_any _ _ _ _ _ _ _ hb ha gp).mono ?_
  rintro e w1 ⟨rfl, J2⟩
  replace J := bw_trans J J2
  clear hc hf J2
  obtain ⟨hc, hf⟩ := bcell J
  go_wp2_with fail
  go_ret
  exact ⟨rfl, bw_trans (by repeat (first | exact bw_refl _ | assumption | apply bw_drewN | apply bw_drew | apply bw_alloc | refine bw_set ?_ (by simp) _)) J⟩
theorem where_line (ax ay bx b_y px py : Int) (w : World) (gs : sgB ax ay bx b_y = true) (gp : ptB px py = true) (h : ¬ dt ax ay bx b_y px py ≤ 0) (h2 : ¬ dt bx b_y ax ay px py ≤ 0) :
    Calls Tryz.prog 109 #[.agg #[.int .i64 ax, .int .i64 ay, .int .i64 bx, .int .i64 b_y], .agg #[.int .i64 px, .int .i64 py]] w fun e w' => e = .returned (.int .i64 1) ∧ Below w.heap.size w w' := by
  obtain ⟨ha, hb, _⟩ := sg_parts gs
  have h' : 0 < dt ax ay bx b_y px py := by omega
  have h2' : 0 < dt bx b_y ax ay px py := by omega
  clear h h2
  go_enter Tryz.func109, Tryz.ntmps109
  go_wp2_with fail
  refine (along_any _ _ _ _ _ _ _ ha hb gp).mono ?_
  rintro e w1 ⟨rfl, J⟩
  obtain ⟨hc, hf⟩ := bcell J
  go_wp2_with fail
  refine (along_any _ _ _ _ _ _ _ hb ha gp).mono ?_
  rintro e w1 ⟨rfl, J2⟩
  replace J := bw_trans J J2
  clear hc hf J2
  obtain ⟨hc, hf⟩ := bcell J
  go_wp2_with fail
  go_ret
  exact ⟨rfl, bw_trans (by repeat (first | exact bw_refl _ | assumption | apply bw_drewN | apply bw_drew | apply bw_alloc | refine bw_set ?_ (by simp) _)) J⟩
end Go.Proofs.YtmdjhoknlplecaaGreatDoor
namespace Go.Proofs.YtmdjhoknlplecaaGreatDoor
open Go.RowKit Go.Sort

/-- How far, at whatever arguments. -/
def farV (ax ay bx b_y px py : Int) : Int × Int := if sgB ax ay bx b_y && ptB px py then far ax ay bx b_y px py else (0, 0)
theorem ret_fr {a b c d : Int} (h : a = c) (h2 : b = d) : Ending.returned (.agg #[.int .i64 a, .int .i64 b]) = .returned (.agg #[.int .i64 c, .int .i64 d]) := by rw [h, h2]
theorem blk_3 {w : World} {b : Nat} {x y z : Value} {t : TypeId} (h : w.heap[b]? = some (.cells #[x, y, z] t (0, 0))) :
    w.cell? ⟨b, 0, none⟩ = some x ∧ w.cell? ⟨b, 1, none⟩ = some y ∧ w.cell? ⟨b, 2, none⟩ = some z := by
  refine ⟨?_, ?_, ?_⟩ <;> simp [World.cell?, h]
theorem blkF {w : World} {b : Nat} {x y : Value} {t : TypeId} (h : w.heap[b]? = some (.cells #[x, y] t (0, 0))) :
    w.cell? ⟨b, 0, none⟩ = some x ∧ w.cell? ⟨b, 1, none⟩ = some y ∧ w.frozen? ⟨b, 0, none⟩ = false ∧ w.frozen? ⟨b, 1, none⟩ = false := by
  refine ⟨?_, ?_, ?_, ?_⟩ <;> simp [World.cell?, World.frozen?, h]
theorem farV_ok {ax ay bx b_y px py : Int} (gs : sgB ax ay bx b_y = true) (gp : ptB px py = true) : farV ax ay bx b_y px py = far ax ay bx b_y px py := by unfold farV; rw [gs, gp]; rfl
set_option maxHeartbeats 1000000 in
theorem segFar_no (ax ay bx b_y px py : Int) (w : World) (h : sgB ax ay bx b_y = false ∨ (sgB ax ay bx b_y = true ∧ ptB px py = false)) :
    Calls Tryz.prog 71 #[.agg #[.int .i64 ax, .int .i64 ay, .int .i64 bx, .int .i64 b_y], .agg #[.int .i64 px, .int .i64 py]] w fun e w' => e = .returned (.agg #[.int .i64 0, .int .i64 0]) ∧ Below w.heap.size w w' := by
  rcases h with gs | ⟨gs, gp⟩
  · go_enter Tryz.func71, Tryz.ntmps71
    go_wp2_with fail
    refine (segOk_any _ _ _ _ _).mono ?_
    rw [gs]
    rintro e w1 ⟨rfl, J⟩
    obtain ⟨hc, hf⟩ := bcell J
    have HB : Hid (Below w.heap.size w w1) := bw_trans (by repeat (first | exact bw_refl _ | assumption | apply bw_drewN | apply bw_drew | apply bw_alloc | refine bw_set ?_ (by simp) _)) J
    have hz := J.size
    simp at hz
    have hz' : w.heap.size + 2 < w1.heap.size := by omega
    clear hz J
    go_wp2_with fail
    exact bodyPost_ret (v := .agg #[.int .i64 0, .int .i64 0]) (by simp [results, Tryz.results71, go_sem, hc]) rfl ⟨rfl, by repeat (first | with_reducible exact HB.out | with_reducible refine bw_set ?_ (by dsimp only; omega) _)⟩
  · go_enter Tryz.func71, Tryz.ntmps71
    go_wp2_with fail
    refine (segOk_any _ _ _ _ _).mono ?_
    rw [gs]
    rintro e w1 ⟨rfl, J⟩
    obtain ⟨hc, hf⟩ := bcell J
    go_wp2_with fail
    refine (ptOk_any _ _ _).mono ?_
    rw [gp]
    rintro e w1 ⟨rfl, J2⟩
    replace J := bw_trans J J2
    clear hc hf J2
    obtain ⟨hc, hf⟩ := bcell J
    have HB : Hid (Below w.heap.size w w1) := bw_trans (by repeat (first | exact bw_refl _ | assumption | apply bw_drewN | apply bw_drew | apply bw_alloc | refine bw_set ?_ (by simp) _)) J
    have hz := J.size
    simp at hz
    have hz' : w.heap.size + 2 < w1.heap.size := by omega
    clear hz J
    go_wp2_with fail
    exact bodyPost_ret (v := .agg #[.int .i64 0, .int .i64 0]) (by simp [results, Tryz.results71, go_sem, hc]) rfl ⟨rfl, by repeat (first | with_reducible exact HB.out | with_reducible refine bw_set ?_ (by dsimp only; omega) _)⟩
set_option maxHeartbeats 2000000 in
theorem segFar_first (ax ay bx b_y px py : Int) (ad : Addr) (w : World) (h0 : Sent ad w) (gs : sgB ax ay bx b_y = true) (gp : ptB px py = true) (h : dt ax ay bx b_y px py ≤ 0) :
    Calls Tryz.prog 71 #[.agg #[.int .i64 ax, .int .i64 ay, .int .i64 bx, .int .i64 b_y], .agg #[.int .i64 px, .int .i64 py]] w fun e w' => e = .returned (.agg #[.int .i64 (dt ax ay px py px py), .int .i64 1]) ∧ Below w.heap.size w w' := by
  have b0 : Below w.heap.size w (((w.alloc (.cells #[.int .i64 ax, .int .i64 ay, .int .i64 bx, .int .i64 b_y] 62)).alloc (.cells #[.int .i64 px, .int .i64 py] 35)).alloc (.cells #[.int .i64 0, .int .i64 0] 47)) := (by repeat (first | exact bw_refl _ | assumption | apply bw_drewN | apply bw_drew | apply bw_alloc | refine bw_set ?_ (by simp) _))
  obtain ⟨W, hW, BW, SB, PB, RB⟩ := boxes3 w (.cells #[.int .i64 ax, .int .i64 ay, .int .i64 bx, .int .i64 b_y] 62) (.cells #[.int .i64 px, .int .i64 py] 35) (.cells #[.int .i64 0, .int .i64 0] 47)
  have WH : Hid (∀ w, Calls Tryz.prog 109 #[.agg #[.int .i64 ax, .int .i64 ay, .int .i64 bx, .int .i64 b_y], .agg #[.int .i64 px, .int .i64 py]] w fun e w' => e = .returned (.int .i64 0) ∧ Below w.heap.size w w') := fun w => where_first ax ay bx b_y px py w gs gp h
  have FA : Hid (∀ w, Sent ad w → _) := fun w hs => farFirst_ok ax ay bx b_y px py ad w hs gs gp
  clear h
  go_enter Tryz.func71, Tryz.ntmps71
  go_wp2_with fail
  refine (segOk_any _ _ _ _ _).mono ?_
  rw [gs]
  rintro e w1 ⟨rfl, J⟩
  obtain ⟨hc, hf⟩ := bcell J
  go_wp2_with fail
  refine (ptOk_any _ _ _).mono ?_
  rw [gp]
  rintro e w1 ⟨rfl, J2⟩
  replace J := bw_trans J J2
  clear hc hf J2
  obtain ⟨hc, hf⟩ := bcell J
  go_upto_region 4 with fail
  have FT : Hid (∃ W2, W2 = w1.alloc (.cells #[.func (.func 106) #[] #[], .func (.func 107) #[] #[], .func (.func 108) #[] #[]] 150)) := ⟨_, rfl⟩
  obtain ⟨W2, hW2⟩ := FT.out
  rw [← hW2]
  rw [← hW] at J
  replace SB := keep J SB
  replace PB := keep J PB
  replace RB := keep J RB
  have zr := blk_lt RB
  have nz : w1.heap.size < W2.heap.size := by rw [hW2]; simp
  have A2 := bw_alloc (bw_refl w1) (.cells #[.func (.func 106) #[] #[], .func (.func 107) #[] #[], .func (.func 108) #[] #[]] 150)
  have TB := heap_new w1 (.cells #[.func (.func 106) #[] #[], .func (.func 107) #[] #[], .func (.func 108) #[] #[]] 150)
  rw [← hW2] at A2 TB
  replace SB := keep A2 SB
  replace PB := keep A2 PB
  replace RB := keep A2 RB
  have H := bw_trans BW (bw_trans J A2)
  have hS0 : (fun w' => w'.cell? ⟨w.heap.size, 0, none⟩ = some (.int .i64 ax) ∧ w'.cell? ⟨w.heap.size, 1, none⟩ = some (.int .i64 ay) ∧ w'.cell? ⟨w.heap.size, 2, none⟩ = some (.int .i64 bx) ∧ w'.cell? ⟨w.heap.size, 3, none⟩ = some (.int .i64 b_y) ∧ w'.cell? ⟨w.heap.size + 1, 0, none⟩ = some (.int .i64 px) ∧ w'.cell? ⟨w.heap.size + 1, 1, none⟩ = some (.int .i64 py) ∧ w'.cell? ⟨w1.heap.size, 0, none⟩ = some (.func (.func 106) #[] #[]) ∧ w'.cell? ⟨w1.heap.size, 1, none⟩ = some (.func (.func 107) #[] #[]) ∧ w'.cell? ⟨w1.heap.size, 2, none⟩ = some (.func (.func 108) #[] #[])) W2 := by
    obtain ⟨s0, s1, s2, s3⟩ := blk_4 SB
    obtain ⟨p0, p1⟩ := blk_2 PB
    obtain ⟨t0, t1, t2⟩ := blk_3 TB
    exact ⟨s0, s1, s2, s3, p0, p1, t0, t1, t2⟩
  clear hW hc hf J A2 SB PB TB BW b0 FT hW2
  have hsD : Sent ad W2.drew := h0.below H.drew
  replace H := H.drew
  replace RB : W2.drew.heap[w.heap.size + 2]? = _ := RB
  go_region_held3 (fun w' => w'.cell? ⟨w.heap.size, 0, none⟩ = some (.int .i64 ax) ∧ w'.cell? ⟨w.heap.size, 1, none⟩ = some (.int .i64 ay) ∧ w'.cell? ⟨w.heap.size, 2, none⟩ = some (.int .i64 bx) ∧ w'.cell? ⟨w.heap.size, 3, none⟩ = some (.int .i64 b_y) ∧ w'.cell? ⟨w.heap.size + 1, 0, none⟩ = some (.int .i64 px) ∧ w'.cell? ⟨w.heap.size + 1, 1, none⟩ = some (.int .i64 py) ∧ w'.cell? ⟨w1.heap.size, 0, none⟩ = some (.func (.func 106) #[] #[]) ∧ w'.cell? ⟨w1.heap.size, 1, none⟩ = some (.func (.func 107) #[] #[]) ∧ w'.cell? ⟨w1.heap.size, 2, none⟩ = some (.func (.func 108) #[] #[])) (first | exact cB9 K (by assumption) | exact hS0 | exact cS9 (by assumption) (by dsimp only; omega) (by dsimp only; omega) (by dsimp only; omega) (by dsimp only; omega) (by dsimp only; omega) (by dsimp only; omega) (by dsimp only; omega) (by dsimp only; omega) (by dsimp only; omega)) (first | (go_at_call 109; refine (WH.out _).mono ?_; rintro e w2 ⟨rfl, K⟩; have hs2 := hsD.below K; replace H := bw_trans H K; replace RB := keep K RB) | (go_at_call 106; refine (FA.out _ hs2).mono ?_; rintro e w3 ⟨rfl, K⟩; replace H := bw_trans H K; replace RB := keep K RB; obtain ⟨q0, q1, qf0, qf1⟩ := blkF RB))
  have HB : Hid _ := H
  have zz := blk_lt RB
  have R2 := setF2 RB (u0 := .int .i64 (dt ax ay px py px py)) (u1 := .int .i64 1)
  obtain ⟨r0, r1⟩ := blk_2 R2
  clear H RB R2
  go_wp2_with fail
  exact bodyPost_ret (v := .agg #[.int .i64 (dt ax ay px py px py), .int .i64 1]) (by simp [results, Tryz.results71, go_sem, r0, r1]) rfl ⟨rfl, by repeat (first | with_reducible exact HB.out | with_reducible refine bw_set ?_ (by dsimp only; omega) _)⟩
end Go.Proofs.YtmdjhoknlplecaaGreatDoor
namespace Go.Proofs.YtmdjhoknlplecaaGreatDoor
open Go.RowKit Go.Sort

set_option maxHeartbeats 2000000 in
theorem segFar_last (ax ay bx b_y px py : Int) (ad : Addr) (w : World) (h0 : Sent ad w) (gs : sgB ax ay bx b_y = true) (gp : ptB px py = true) (h : ¬ dt ax ay bx b_y px py ≤ 0) (h2 : dt bx b_y ax ay px py ≤ 0) :
    Calls Tryz.prog 71 #[.agg #[.int .i64 ax, .int .i64 ay, .int .i64 bx, .int .i64 b_y], .agg #[.int .i64 px, .int .i64 py]] w fun e w' => e = .returned (.agg #[.int .i64 (dt bx b_y px py px py), .int .i64 1]) ∧ Below w.heap.size w w' := by
  have b0 : Below w.heap.size w (((w.alloc (.cells #[.int .i64 ax, .int .i64 ay, .int .i64 bx, .int .i64 b_y] 62)).alloc (.cells #[.int .i64 px, .int .i64 py] 35)).alloc (.cells #[.int .i64 0, .int .i64 0] 47)) := (by repeat (first | exact bw_refl _ | assumption | apply bw_drewN | apply bw_drew | apply bw_alloc | refine bw_set ?_ (by simp) _))
  obtain ⟨W, hW, BW, SB, PB, RB⟩ := boxes3 w (.cells #[.int .i64 ax, .int .i64 ay, .int .i64 bx, .int .i64 b_y] 62) (.cells #[.int .i64 px, .int .i64 py] 35) (.cells #[.int .i64 0, .int .i64 0] 47)
  have WH : Hid (∀ w, Calls Tryz.prog 109 #[.agg #[.int .i64 ax, .int .i64 ay, .int .i64 bx, .int .i64 b_y], .agg #[.int .i64 px, .int .i64 py]] w fun e w' => e = .returned (.int .i64 2) ∧ Below w.heap.size w w') := fun w => where_last ax ay bx b_y px py w gs gp h h2
  have FA : Hid (∀ w, Sent ad w → _) := fun w hs => farLast_ok ax ay bx b_y px py ad w hs gs gp
  clear h h2
  go_enter Tryz.func71, Tryz.ntmps71
  go_wp2_with fail
  refine (segOk_any _ _ _ _ _).mono ?_
  rw [gs]
  rintro e w1 ⟨rfl, J⟩
  obtain ⟨hc, hf⟩ := bcell J
  go_wp2_with fail
  refine (ptOk_any _ _ _).mono ?_
  rw [gp]
  rintro e w1 ⟨rfl, J2⟩
  replace J := bw_trans J J2
  clear hc hf J2
  obtain ⟨hc, hf⟩ := bcell J
  go_upto_region 4 with fail
  have FT : Hid (∃ W2, W2 = w1.alloc (.cells #[.func (.func 106) #[] #[], .func (.func 107) #[] #[], .func (.func 108) #[] #[]] 150)) := ⟨_, rfl⟩
  obtain ⟨W2, hW2⟩ := FT.out
  rw [← hW2]
  rw [← hW] at J
  replace SB := keep J SB
  replace PB := keep J PB
  replace RB := keep J RB
  have zr := blk_lt RB
  have nz : w1.heap.size < W2.heap.size := by rw [hW2]; simp
  have A2 := bw_alloc (bw_refl w1) (.cells #[.func (.func 106) #[] #[], .func (.func 107) #[] #[], .func (.func 108) #[] #[]] 150)
  have TB := heap_new w1 (.cells #[.func (.func 106) #[] #[], .func (.func 107) #[] #[], .func (.func 108) #[] #[]] 150)
  rw [← hW2] at A2 TB
  replace SB := keep A2 SB
  replace PB := keep A2 PB
  replace RB := keep A2 RB
  have H := bw_trans BW (bw_trans J A2)
  have hS0 : (fun w' => w'.cell? ⟨w.heap.size, 0, none⟩ = some (.int .i64 ax) ∧ w'.cell? ⟨w.heap.size, 1, none⟩ = some (.int .i64 ay) ∧ w'.cell? ⟨w.heap.size, 2, none⟩ = some (.int .i64 bx) ∧ w'.cell? ⟨w.heap.size, 3, none⟩ = some (.int .i64 b_y) ∧ w'.cell? ⟨w.heap.size + 1, 0, none⟩ = some (.int .i64 px) ∧ w'.cell? ⟨w.heap.size + 1, 1, none⟩ = some (.int .i64 py) ∧ w'.cell? ⟨w1.heap.size, 0, none⟩ = some (.func (.func 106) #[] #[]) ∧ w'.cell? ⟨w1.heap.size, 1, none⟩ = some (.func (.func 107) #[] #[]) ∧ w'.cell? ⟨w1.heap.size, 2, none⟩ = some (.func (.func 108) #[] #[])) W2 := by
    obtain ⟨s0, s1, s2, s3⟩ := blk_4 SB
    obtain ⟨p0, p1⟩ := blk_2 PB
    obtain ⟨t0, t1, t2⟩ := blk_3 TB
    exact ⟨s0, s1, s2, s3, p0, p1, t0, t1, t2⟩
  clear hW hc hf J A2 SB PB TB BW b0 FT hW2
  have hsD : Sent ad W2.drew := h0.below H.drew
  replace H := H.drew
  replace RB : W2.drew.heap[w.heap.size + 2]? = _ := RB
  go_region_held3 (fun w' => w'.cell? ⟨w.heap.size, 0, none⟩ = some (.int .i64 ax) ∧ w'.cell? ⟨w.heap.size, 1, none⟩ = some (.int .i64 ay) ∧ w'.cell? ⟨w.heap.size, 2, none⟩ = some (.int .i64 bx) ∧ w'.cell? ⟨w.heap.size, 3, none⟩ = some (.int .i64 b_y) ∧ w'.cell? ⟨w.heap.size + 1, 0, none⟩ = some (.int .i64 px) ∧ w'.cell? ⟨w.heap.size + 1, 1, none⟩ = some (.int .i64 py) ∧ w'.cell? ⟨w1.heap.size, 0, none⟩ = some (.func (.func 106) #[] #[]) ∧ w'.cell? ⟨w1.heap.size, 1, none⟩ = some (.func (.func 107) #[] #[]) ∧ w'.cell? ⟨w1.heap.size, 2, none⟩ = some (.func (.func 108) #[] #[])) (first | exact cB9 K (by assumption) | exact hS0 | exact cS9 (by assumption) (by dsimp only; omega) (by dsimp only; omega) (by dsimp only; omega) (by dsimp only; omega) (by dsimp only; omega) (by dsimp only; omega) (by dsimp only; omega) (by dsimp only; omega) (by dsimp only; omega)) (first | (go_at_call 109; refine (WH.out _).mono ?_; rintro e w2 ⟨rfl, K⟩; have hs2 := hsD.below K; replace H := bw_trans H K; replace RB := keep K RB) | (go_at_call 108; refine (FA.out _ hs2).mono ?_; rintro e w3 ⟨rfl, K⟩; replace H := bw_trans H K; replace RB := keep K RB; obtain ⟨q0, q1, qf0, qf1⟩ := blkF RB))
  have HB : Hid _ := H
  have zz := blk_lt RB
  have R2 := setF2 RB (u0 := .int .i64 (dt bx b_y px py px py)) (u1 := .int .i64 1)
  obtain ⟨r0, r1⟩ := blk_2 R2
  clear H RB R2
  go_wp2_with fail
  exact bodyPost_ret (v := .agg #[.int .i64 (dt bx b_y px py px py), .int .i64 1]) (by simp [results, Tryz.results71, go_sem, r0, r1]) rfl ⟨rfl, by repeat (first | with_reducible exact HB.out | with_reducible refine bw_set ?_ (by dsimp only; omega) _)⟩
set_option maxHeartbeats 2000000 in
theorem segFar_line (ax ay bx b_y px py : Int) (ad : Addr) (w : World) (h0 : Sent ad w) (gs : sgB ax ay bx b_y = true) (gp : ptB px py = true) (h : ¬ dt ax ay bx b_y px py ≤ 0) (h2 : ¬ dt bx b_y ax ay px py ≤ 0) :
    Calls Tryz.prog 71 #[.agg #[.int .i64 ax, .int .i64 ay, .int .i64 bx, .int .i64 b_y], .agg #[.int .i64 px, .int .i64 py]] w fun e w' => e = .returned (.agg #[.int .i64 (ofN (crs ax ay bx b_y px py * crs ax ay bx b_y px py) (dt ax ay bx b_y bx b_y)), .int .i64 (ofD (crs ax ay bx b_y px py * crs ax ay bx b_y px py) (dt ax ay bx b_y bx b_y))]) ∧ Below w.heap.size w w' := by
  have b0 : Below w.heap.size w (((w.alloc (.cells #[.int .i64 ax, .int .i64 ay, .int .i64 bx, .int .i64 b_y] 62)).alloc (.cells #[.int .i64 px, .int .i64 py] 35)).alloc (.cells #[.int .i64 0, .int .i64 0] 47)) := (by repeat (first | exact bw_refl _ | assumption | apply bw_drewN | apply bw_drew | apply bw_alloc | refine bw_set ?_ (by simp) _))
  obtain ⟨W, hW, BW, SB, PB, RB⟩ := boxes3 w (.cells #[.int .i64 ax, .int .i64 ay, .int .i64 bx, .int .i64 b_y] 62) (.cells #[.int .i64 px, .int .i64 py] 35) (.cells #[.int .i64 0, .int .i64 0] 47)
  have WH : Hid (∀ w, Calls Tryz.prog 109 #[.agg #[.int .i64 ax, .int .i64 ay, .int .i64 bx, .int .i64 b_y], .agg #[.int .i64 px, .int .i64 py]] w fun e w' => e = .returned (.int .i64 1) ∧ Below w.heap.size w w') := fun w => where_line ax ay bx b_y px py w gs gp h h2
  have FA : Hid (∀ w, Sent ad w → _) := fun w hs => farLine_ok ax ay bx b_y px py ad w hs gs gp
  clear h h2
  go_enter Tryz.func71, Tryz.ntmps71
  go_wp2_with fail
  refine (segOk_any _ _ _ _ _).mono ?_
  rw [gs]
  rintro e w1 ⟨rfl, J⟩
  obtain ⟨hc, hf⟩ := bcell J
  go_wp2_with fail
  refine (ptOk_any _ _ _).mono ?_
  rw [gp]
  rintro e w1 ⟨rfl, J2⟩
  replace J := bw_trans J J2
  clear hc hf J2
  obtain ⟨hc, hf⟩ := bcell J
  go_upto_region 4 with fail
  have FT : Hid (∃ W2, W2 = w1.alloc (.cells #[.func (.func 106) #[] #[], .func (.func 107) #[] #[], .func (.func 108) #[] #[]] 150)) := ⟨_, rfl⟩
  obtain ⟨W2, hW2⟩ := FT.out
  rw [← hW2]
  rw [← hW] at J
  replace SB := keep J SB
  replace PB := keep J PB
  replace RB := keep J RB
  have zr := blk_lt RB
  have nz : w1.heap.size < W2.heap.size := by rw [hW2]; simp
  have A2 := bw_alloc (bw_refl w1) (.cells #[.func (.func 106) #[] #[], .func (.func 107) #[] #[], .func (.func 108) #[] #[]] 150)
  have TB := heap_new w1 (.cells #[.func (.func 106) #[] #[], .func (.func 107) #[] #[], .func (.func 108) #[] #[]] 150)
  rw [← hW2] at A2 TB
  replace SB := keep A2 SB
  replace PB := keep A2 PB
  replace RB := keep A2 RB
  have H := bw_trans BW (bw_trans J A2)
  have hS0 : (fun w' => w'.cell? ⟨w.heap.size, 0, none⟩ = some (.int .i64 ax) ∧ w'.cell? ⟨w.heap.size, 1, none⟩ = some (.int .i64 ay) ∧ w'.cell? ⟨w.heap.size, 2, none⟩ = some (.int .i64 bx) ∧ w'.cell? ⟨w.heap.size, 3, none⟩ = some (.int .i64 b_y) ∧ w'.cell? ⟨w.heap.size + 1, 0, none⟩ = some (.int .i64 px) ∧ w'.cell? ⟨w.heap.size + 1, 1, none⟩ = some (.int .i64 py) ∧ w'.cell? ⟨w1.heap.size, 0, none⟩ = some (.func (.func 106) #[] #[]) ∧ w'.cell? ⟨w1.heap.size, 1, none⟩ = some (.func (.func 107) #[] #[]) ∧ w'.cell? ⟨w1.heap.size, 2, none⟩ = some (.func (.func 108) #[] #[])) W2 := by
    obtain ⟨s0, s1, s2, s3⟩ := blk_4 SB
    obtain ⟨p0, p1⟩ := blk_2 PB
    obtain ⟨t0, t1, t2⟩ := blk_3 TB
    exact ⟨s0, s1, s2, s3, p0, p1, t0, t1, t2⟩
  clear hW hc hf J A2 SB PB TB BW b0 FT hW2
  have hsD : Sent ad W2.drew := h0.below H.drew
  replace H := H.drew
  replace RB : W2.drew.heap[w.heap.size + 2]? = _ := RB
  go_region_held3 (fun w' => w'.cell? ⟨w.heap.size, 0, none⟩ = some (.int .i64 ax) ∧ w'.cell? ⟨w.heap.size, 1, none⟩ = some (.int .i64 ay) ∧ w'.cell? ⟨w.heap.size, 2, none⟩ = some (.int .i64 bx) ∧ w'.cell? ⟨w.heap.size, 3, none⟩ = some (.int .i64 b_y) ∧ w'.cell? ⟨w.heap.size + 1, 0, none⟩ = some (.int .i64 px) ∧ w'.cell? ⟨w.heap.size + 1, 1, none⟩ = some (.int .i64 py) ∧ w'.cell? ⟨w1.heap.size, 0, none⟩ = some (.func (.func 106) #[] #[]) ∧ w'.cell? ⟨w1.heap.size, 1, none⟩ = some (.func (.func 107) #[] #[]) ∧ w'.cell? ⟨w1.heap.size, 2, none⟩ = some (.func (.func 108) #[] #[])) (first | exact cB9 K (by assumption) | exact hS0 | exact cS9 (by assumption) (by dsimp only; omega) (by dsimp only; omega) (by dsimp only; omega) (by dsimp only; omega) (by dsimp only; omega) (by dsimp only; omega) (by dsimp only; omega) (by dsimp only; omega) (by dsimp only; omega)) (first | (go_at_call 109; refine (WH.out _).mono ?_; rintro e w2 ⟨rfl, K⟩; have hs2 := hsD.below K; replace H := bw_trans H K; replace RB := keep K RB) | (go_at_call 107; refine (FA.out _ hs2).mono ?_; rintro e w3 ⟨rfl, K⟩; replace H := bw_trans H K; replace RB := keep K RB; obtain ⟨q0, q1, qf0, qf1⟩ := blkF RB))
  have HB : Hid _ := H
  have zz := blk_lt RB
  have R2 := setF2 RB (u0 := .int .i64 (ofN (crs ax ay bx b_y px py * crs ax ay bx b_y px py) (dt ax ay bx b_y bx b_y))) (u1 := .int .i64 (ofD (crs ax ay bx b_y px py * crs ax ay bx b_y px py) (dt ax ay bx b_y bx b_y)))
  obtain ⟨r0, r1⟩ := blk_2 R2
  clear H RB R2
  go_wp2_with fail
  exact bodyPost_ret (v := .agg #[.int .i64 (ofN (crs ax ay bx b_y px py * crs ax ay bx b_y px py) (dt ax ay bx b_y bx b_y)), .int .i64 (ofD (crs ax ay bx b_y px py * crs ax ay bx b_y px py) (dt ax ay bx b_y bx b_y))]) (by simp [results, Tryz.results71, go_sem, r0, r1]) rfl ⟨rfl, by repeat (first | with_reducible exact HB.out | with_reducible refine bw_set ?_ (by dsimp only; omega) _)⟩
theorem segFar_ok (ax ay bx b_y px py : Int) (ad : Addr) (w : World) (h0 : Sent ad w) (gs : sgB ax ay bx b_y = true) (gp : ptB px py = true) :
    Calls Tryz.prog 71 #[.agg #[.int .i64 ax, .int .i64 ay, .int .i64 bx, .int .i64 b_y], .agg #[.int .i64 px, .int .i64 py]] w fun e w' => e = .returned (.agg #[.int .i64 (far ax ay bx b_y px py).1, .int .i64 (far ax ay bx b_y px py).2]) ∧ Below w.heap.size w w' := by
  unfold far
  by_cases h : dt ax ay bx b_y px py ≤ 0
  · rw [if_pos h]; exact segFar_first _ _ _ _ _ _ ad w h0 gs gp h
  · rw [if_neg h]
    by_cases h2 : dt bx b_y ax ay px py ≤ 0
    · rw [if_pos h2]; exact segFar_last _ _ _ _ _ _ ad w h0 gs gp h h2
    · rw [if_neg h2]; exact segFar_line _ _ _ _ _ _ ad w h0 gs gp h h2
theorem segFar_any (ax ay bx b_y px py : Int) (ad : Addr) (w : World) (h0 : Sent ad w) :
    Calls Tryz.prog 71 #[.agg #[.int .i64 ax, .int .i64 ay, .int .i64 bx, .int .i64 b_y], .agg #[.int .i64 px, .int .i64 py]] w fun e w' => e = .returned (.agg #[.int .i64 (farV ax ay bx b_y px py).1, .int .i64 (farV ax ay bx b_y px py).2]) ∧ Below w.heap.size w w' := by
  cases gs : sgB ax ay bx b_y
  · have e : farV ax ay bx b_y px py = (0, 0) := by unfold farV; rw [gs]; rfl
    rw [e]; exact segFar_no _ _ _ _ _ _ w (.inl gs)
  · cases gp : ptB px py
    · have e : farV ax ay bx b_y px py = (0, 0) := by unfold farV; rw [gs, gp]; rfl
      rw [e]; exact segFar_no _ _ _ _ _ _ w (.inr ⟨gs, gp⟩)
    · rw [farV_ok gs gp]; exact segFar_ok _ _ _ _ _ _ ad w h0 gs gp
end Go.Proofs.YtmdjhoknlplecaaGreatDoor
namespace Go.Proofs.YtmdjhoknlplecaaGreatDoor
open Go.RowKit Go.Shelf Go.Sort
attribute [local go_sem] Oper.semAt_some

theorem Tryz.infoFrac : (Tryz.prog.info? 47).map (fun i => (i.zero, i.size, i.bytes)) = some (some (.agg #[.int .i64 0, .int .i64 0]), 2, 16) := by kernel_rfl
/-- How far a point is from a segment. -/
def farS (p : P2) (s : P2 × P2) : Int × Int := farV s.1.1 s.1.2 s.2.1 s.2.2 p.1 p.2
def frCells (fs : List (Int × Int)) : List Value := fs.flatMap fun f => [.int .i64 f.1, .int .i64 f.2]
theorem frCells_snoc (fs : List (Int × Int)) (f : Int × Int) : frCells (fs ++ [f]) = frCells fs ++ [.int .i64 f.1, .int .i64 f.2] := by simp [frCells]
set_option maxRecDepth 100000 in
set_option maxHeartbeats 4000000 in
theorem fars_in (n : Nat) (hn : 12 ≤ n) (b : Nat) (rs : List RingT) (p : P2) (ad : Addr) (w : World) (h0 : Sent ad w) (hR : RingN w.heap.size w (some ⟨b, 0, none⟩) rs) (hes : (edgR rs).length ≤ 1000) :
    CallsIn Fence.wide n Tryz.prog 100 #[.pointer (some ⟨b, 0, none⟩), .agg #[.int .i64 p.1, .int .i64 p.2]] w fun e W' => ∃ v, e = .returned v ∧ W'.ownsRow w.heap.size 47 2 v (edgR rs).length (frCells ((edgR rs).map (farS p))) ∧ Below w.heap.size w W' := by
  obtain ⟨i0, hi0, hz0, hz1, hz2⟩ := info_parts Tryz.infoFrac
  have h1 : 1 ≤ n := by omega
  have hmx : Tryz.prog.follows .mixedOrders = true := by kernel_rfl
  refine callsIn_of_wp_marks Tryz.func100 rfl trivial ?_ rfl
  simp only [Tryz.ntmps100, List.size_toArray, List.length_cons, List.length_nil, Nat.reduceAdd, Nat.reduceSub, Array.replicate_succ, Array.replicate_zero, List.push_toArray, List.append_toArray, List.nil_append, List.cons_append]
  gi_wp2_with (refine ⟨trivial, ?_⟩; gi_at_call 66; refine (ringEdges_in (n - 1) _ _).mono ?_; rintro e w' ⟨rfl, rfl⟩)
  have Q0 := ((Lies.new' w w.heap.size rfl #[.int .i64 p.1, .int .i64 p.2] 35).alloc (.cells #[.slice none 0 0] 143)).alloc (.cells #[.pointer (some ⟨b, 0, none⟩)] 110)
  have M := (Lies.new' (w.alloc (.cells #[.int .i64 p.1, .int .i64 p.2] 35)) (w.heap.size + 1) (by simp) #[.slice none 0 0] 143).alloc (.cells #[.pointer (some ⟨b, 0, none⟩)] 110)
  have L1 := Lies.new' ((w.alloc (.cells #[.int .i64 p.1, .int .i64 p.2] 35)).alloc (.cells #[.slice none 0 0] 143)) (w.heap.size + 1 + 1) (by simp) #[.pointer (some ⟨b, 0, none⟩)] 110
  have hB0 : Below w.heap.size w (((w.alloc (.cells #[.int .i64 p.1, .int .i64 p.2] 35)).alloc (.cells #[.slice none 0 0] 143)).alloc (.cells #[.pointer (some ⟨b, 0, none⟩)] 110)) := (by repeat (first | exact bw_refl _ | assumption | apply bw_drewN | apply bw_drew | apply bw_alloc | refine bw_set ?_ (by simp) _))
  have hsz : (((w.alloc (.cells #[.int .i64 p.1, .int .i64 p.2] 35)).alloc (.cells #[.slice none 0 0] 143)).alloc (.cells #[.pointer (some ⟨b, 0, none⟩)] 110)).heap.size = w.heap.size + 3 := by simp
  obtain ⟨W0, hW0⟩ : ∃ W0, ((w.alloc (.cells #[.int .i64 p.1, .int .i64 p.2] 35)).alloc (.cells #[.slice none 0 0] 143)).alloc (.cells #[.pointer (some ⟨b, 0, none⟩)] 110) = W0 := ⟨_, rfl⟩
  rw [hW0] at Q0 M L1 hB0 hsz ⊢
  clear hW0
  have hseq := ringE_seq (n - 1) (by omega) (w.heap.size + 1 + 1) w.heap.size (some ⟨b, 0, none⟩) rs W0 L1.c1 (by omega) (hR.keep hB0)
  refine wpIn_rangeO rfl h1 (gf := 102) (lb := #[.pointer (some ⟨w.heap.size + 1 + 1, 0, none⟩)]) rfl trivial (enters_of Tryz.func102 (by kernel_rfl) rfl)
    hseq KT_t (KT_b (by omega)) (Below.refl _ _) (fun _ => rfl)
    (fun pre W => ((∃ vv, Boxed W (w.heap.size + 1) 143 vv ∧ W.ownsRow w.heap.size 47 2 vv pre.length (frCells (pre.map (farS p))) ∧ True) ∧ Lies w.heap.size #[.int .i64 p.1, .int .i64 p.2] 35 W) ∧ Below w.heap.size w W)
    (OwnFrom.and (OwnFrom.and (Own.from (holdsRow_own w.heap.size (w.heap.size + 1) 143 47 2 (fun pre : List (P2 × P2) => pre.length) (fun pre => frCells (pre.map (farS p))) (fun _ _ => True)) _) (lies_from _ _ _ _)) (ownFrom_below (Nat.le_refl _) (by omega)))
    ⟨⟨⟨_, M, ⟨rfl, .inl ⟨rfl, rfl⟩⟩, trivial⟩, Q0⟩, hB0⟩
    (fun x a' W => ∃ Bx, w.heap.size + 1 < Bx ∧ Lies Bx #[.int .i64 x.1.1, .int .i64 x.1.2, .int .i64 x.2.1, .int .i64 x.2.2] 62 W ∧ a' = { tmps := #[.pointer (some ⟨b, 0, none⟩), .agg #[.int .i64 p.1, .int .i64 p.2], undef, .pointer (some ⟨w.heap.size, 0, none⟩), .slice none 0 0, .pointer (some ⟨w.heap.size + 1, 0, none⟩), .pointer (some ⟨Bx, 0, none⟩), .pointer (some ⟨b, 0, none⟩), .pointer (some ⟨b, 0, none⟩), .pointer (some ⟨b, 0, none⟩), .func (.func 102) #[] #[.pointer (some ⟨w.heap.size + 1 + 1, 0, none⟩)], .agg #[.int .i64 x.1.1, .int .i64 x.1.2, .int .i64 x.2.1, .int .i64 x.2.2], undef, undef, undef, undef, undef, undef, undef], defers := [] })
    (fun x a' _ X Y row hs hg hr => by obtain ⟨Bx, e1, e2, e3⟩ := hs; exact ⟨Bx, e1, lies_own (β := Unit) Bx _ _ () X Y row e2 hg (fun r e => (hr r e).2), e3⟩)
    ?assign ?body ?done
  case assign =>
    rintro l pre x W K ⟨⟨⟨vv, M0, hr0, _⟩, A0⟩, hB1⟩ hK
    unfold segE
    have zA := A0.lt
    have zM : w.heap.size + 1 < W.heap.size := (Array.getElem?_eq_some_iff.1 (show W.heap[w.heap.size + 1]? = _ from M0)).1
    have hB3 : Below W.heap.size W (W.alloc (.cells #[.int .i64 x.1.1, .int .i64 x.1.2, .int .i64 x.2.1, .int .i64 x.2.2] 62)) := (by repeat (first | exact bw_refl _ | assumption | apply bw_drewN | apply bw_drew | apply bw_alloc | refine bw_set ?_ (by simp) _))
    gi_wp2
    exact hK _ _ ((KeepsOthers.alloc _ _).from _) (KT.of_below hB3 hB1.size) ⟨⟨⟨vv, M0.alloc _, hr0.alloc _, trivial⟩, A0.alloc _⟩, hB1.alloc hB1.size _⟩ ⟨W.heap.size, zM, Lies.new W _ _, rfl⟩
  case body =>
    rintro l pre x a' W hl2 ⟨⟨⟨vv, M0, hr0, _⟩, A0⟩, hB1⟩ ⟨Bx, hBx, bX, rfl⟩ hlt
    have c0 := M0.cell
    obtain ⟨cx0, cx1, cx2, cx3⟩ := bX.c4
    obtain ⟨a0, a1⟩ := blk_2 A0
    have hzW := hB1.size
    have hX := segFar_any x.1.1 x.1.2 x.2.1 x.2.2 p.1 p.2 ad W.drew (h0.below hB1.drew)
    obtain ⟨f, hf⟩ : ∃ f, farS p x = f := ⟨_, rfl⟩
    rw [show farV x.1.1 x.1.2 x.2.1 x.2.2 p.1 p.2 = f from hf] at hX
    have Hf : Hid (farS p x = f) := hf
    clear hf
    have hmax : pre.length + 1 ≤ maxLen := by simp [maxLen]; omega
    have zA := A0.lt
    have zBx := bX.lt
    have zM : w.heap.size + 1 < W.heap.size := (Array.getElem?_eq_some_iff.1 (show W.heap[w.heap.size + 1]? = _ from M0)).1
    gi_wp2
    refine wpIn_round_held (S := (fun w' : World => (w'.cell? ⟨Bx, 0, none⟩ = some (.int .i64 x.1.1) ∧ w'.cell? ⟨Bx, 1, none⟩ = some (.int .i64 x.1.2) ∧ w'.cell? ⟨Bx, 2, none⟩ = some (.int .i64 x.2.1) ∧ w'.cell? ⟨Bx, 3, none⟩ = some (.int .i64 x.2.2)) ∧ w'.cell? ⟨w.heap.size, 0, none⟩ = some (.int .i64 p.1) ∧ w'.cell? ⟨w.heap.size, 1, none⟩ = some (.int .i64 p.2))) hmx (by kernel_rfl) (by rintro ⟨_, _, h⟩; exact h) ?_
    have hS0 : (fun w' : World => (w'.cell? ⟨Bx, 0, none⟩ = some (.int .i64 x.1.1) ∧ w'.cell? ⟨Bx, 1, none⟩ = some (.int .i64 x.1.2) ∧ w'.cell? ⟨Bx, 2, none⟩ = some (.int .i64 x.2.1) ∧ w'.cell? ⟨Bx, 3, none⟩ = some (.int .i64 x.2.2)) ∧ w'.cell? ⟨w.heap.size, 0, none⟩ = some (.int .i64 p.1) ∧ w'.cell? ⟨w.heap.size, 1, none⟩ = some (.int .i64 p.2)) W.drew := ⟨⟨cx0, cx1, cx2, cx3⟩, a0, a1⟩
    refine wpAnyH_take (i := 1) (v := .agg #[.int .i64 x.1.1, .int .i64 x.1.2, .int .i64 x.2.1, .int .i64 x.2.2]) rfl (by kernel_rfl) (by kernel_rfl) (by kernel_rfl) (fun _ _ _ h => h) (Or.inl ⟨by rfl, by rintro w' ⟨⟨s1, s2, s3, s4⟩, s5, s6⟩; go_simp⟩) hS0 ?_
    refine wpAnyH_take (i := 2) (v := .agg #[.int .i64 p.1, .int .i64 p.2]) rfl (by kernel_rfl) (by kernel_rfl) (by kernel_rfl) (fun _ _ _ h => h) (Or.inl ⟨by rfl, by rintro w' ⟨⟨s1, s2, s3, s4⟩, s5, s6⟩; go_simp⟩) hS0 ?_
    refine wpAnyH_all (rs := [0, 3]) (by kernel_rfl) (by simp) ?_
    intro i hi
    have hi' : i = 0 ∨ i = 3 := by simpa using hi
    clear hi
    rcases hi' with rfl | rfl
    · skip
      refine YieldsIf.wpOp (S := fun w' => w' = W.drew) (v := vv) rfl (Or.inl ⟨by rfl, by rintro w' rfl; go_simp⟩) rfl ⟨hS0, ?_⟩
      refine wpAnyH_all (rs := [3]) (by kernel_rfl) (by simp) ?_
      intro i hi
      obtain rfl : i = 3 := by simpa using hi
      refine wpOp_now rfl (by rfl) ?_
      go_simp
      refine hX.mono ?_
      rintro e w3 ⟨rfl, J3⟩
      have M3 : Boxed w3 (w.heap.size + 1) 143 vv := (J3.block (w.heap.size + 1) zM).trans M0
      have hr3 : w3.ownsRow w.heap.size 47 2 vv pre.length (frCells (pre.map (farS p))) := (hr0.kept (w' := W.drew) (row := none) ⟨rfl, rfl, rfl, Nat.le_refl _, fun _ _ _ => rfl⟩ (Classical.em _)).kept (w' := w3) (row := none) ⟨J3.os, J3.tape, J3.output, J3.size, fun j hj _ => J3.block j hj⟩ (Classical.em _)
      have A3 : Lies w.heap.size #[.int .i64 p.1, .int .i64 p.2] 35 w3 := (J3.block w.heap.size zA).trans A0
      have b3 : Lies Bx #[.int .i64 x.1.1, .int .i64 x.1.2, .int .i64 x.2.1, .int .i64 x.2.2] 62 w3 := (J3.block Bx zBx).trans bX
      have z3 : W.heap.size ≤ w3.heap.size := J3.size
      have hS3 : (fun w' : World => (w'.cell? ⟨Bx, 0, none⟩ = some (.int .i64 x.1.1) ∧ w'.cell? ⟨Bx, 1, none⟩ = some (.int .i64 x.1.2) ∧ w'.cell? ⟨Bx, 2, none⟩ = some (.int .i64 x.2.1) ∧ w'.cell? ⟨Bx, 3, none⟩ = some (.int .i64 x.2.2)) ∧ w'.cell? ⟨w.heap.size, 0, none⟩ = some (.int .i64 p.1) ∧ w'.cell? ⟨w.heap.size, 1, none⟩ = some (.int .i64 p.2)) w3 := ⟨b3.c4, blk_2 A3⟩
      have cm3 := M3.cell
      refine ⟨hS3, ?_⟩
      refine wpAnyH_all (rs := [4]) (by kernel_rfl) (by simp) ?_
      intro i hi
      obtain rfl : i = 4 := by simpa using hi
      have B34 : Below w3.heap.size w3 (w3.alloc (.cells #[.int .i64 f.1, .int .i64 f.2] 47)) := (by repeat (first | exact bw_refl _ | assumption | apply bw_drewN | apply bw_drew | apply bw_alloc | refine bw_set ?_ (by simp) _))
      have hS4 : (fun w' : World => (w'.cell? ⟨Bx, 0, none⟩ = some (.int .i64 x.1.1) ∧ w'.cell? ⟨Bx, 1, none⟩ = some (.int .i64 x.1.2) ∧ w'.cell? ⟨Bx, 2, none⟩ = some (.int .i64 x.2.1) ∧ w'.cell? ⟨Bx, 3, none⟩ = some (.int .i64 x.2.2)) ∧ w'.cell? ⟨w.heap.size, 0, none⟩ = some (.int .i64 p.1) ∧ w'.cell? ⟨w.heap.size, 1, none⟩ = some (.int .i64 p.2)) (w3.alloc (.cells #[.int .i64 f.1, .int .i64 f.2] 47)) := ⟨(b3.below B34).c4, blk_2 (A3.below B34)⟩
      refine wpOp_now rfl (by rfl) ?_
      go_simp
      refine wpAnyH_all (rs := [5]) (by kernel_rfl) (by simp) ?_
      intro i hi
      obtain rfl : i = 5 := by simpa using hi
      refine wpOp_now rfl (by rfl) ?_
      refine wp_append_lies _ _ _ _ (by rfl) w.heap.size 47 i0 _ 2 16 Tryz.underlying143 hi0 hz0 hz1 hz2 rfl (by omega) _ pre.length _ (by rfl) (hr3.alloc _) ⟨w3.heap.size, 0, none⟩ 1 1 [.int .i64 f.1, .int .i64 f.2] (by rfl) (by rfl) (World.news_of_block (cs := #[.int .i64 f.1, .int .i64 f.2]) (t := 47) (fr := (0, 0)) (heap_alloc_new w3 _)) (by simp [Value.oneCell']) (by omega) hmax (by omega) (by simp; omega) (w3.heap.size + 1) (by simp) ?_
      intro gg cg w5 hown5 hgr5 hat5 hlt5
      obtain ⟨hv1, hv2, hr2, hk2, hb2⟩ := M3.appended (by decide) hr3 (by omega) (by omega) hown5 hgr5
      have hne : ∀ (k : Nat) (cs : Array Value) (t : TypeId), t ≠ 47 → w3.heap[k]? = some (.cells cs t (0, 0)) → w5.heap[k]? = some (.cells cs t (0, 0)) := fun k cs t ht h => by
        refine (hgr5.block k (by have := (Array.getElem?_eq_some_iff.1 h).1; simp; omega) (fun e => ?_)).trans ((B34.block k (Array.getElem?_eq_some_iff.1 h).1).trans h)
        rcases hr3.2 with ⟨e1, _⟩ | ⟨g0, c0', cur0, e1, _, hg0, _⟩
        · subst e1; cases e
        · subst e1
          have e' : k = g0 := Option.some.inj e
          rw [e', hg0] at h; cases h; exact ht rfl
      have A5 : Lies w.heap.size #[.int .i64 p.1, .int .i64 p.2] 35 w5 := hne _ _ _ (by decide) A3
      have b5 : Lies Bx #[.int .i64 x.1.1, .int .i64 x.1.2, .int .i64 x.2.1, .int .i64 x.2.2] 62 w5 := hne _ _ _ (by decide) b3
      have hS5 : (fun w' : World => (w'.cell? ⟨Bx, 0, none⟩ = some (.int .i64 x.1.1) ∧ w'.cell? ⟨Bx, 1, none⟩ = some (.int .i64 x.1.2) ∧ w'.cell? ⟨Bx, 2, none⟩ = some (.int .i64 x.2.1) ∧ w'.cell? ⟨Bx, 3, none⟩ = some (.int .i64 x.2.2)) ∧ w'.cell? ⟨w.heap.size, 0, none⟩ = some (.int .i64 p.1) ∧ w'.cell? ⟨w.heap.size, 1, none⟩ = some (.int .i64 p.2)) w5 := ⟨b5.c4, blk_2 A5⟩
      refine ⟨hS5, ?_⟩
      simp only [Act.put, List.setIfInBounds_toArray]
      refine wpAnyH_all (rs := [6]) (by kernel_rfl) (by simp) ?_
      intro i hi
      obtain rfl : i = 6 := by simpa using hi
      have hc1 := hv1.cell
      have hf1 := hv1.frozen
      refine wpOp_now rfl (by rfl) ?_
      go_simp
      refine wpAnyH_done (by kernel_rfl) ?_ _
      have BWX : Below w.heap.size W (w5.setCell ⟨w.heap.size + 1, 0, none⟩ (.slice (some ⟨gg, 0, none⟩) (pre.length + 1) cg)) := ((Below.refl _ W).drew.trans (J3.mono hzW)).trans hb2
      refine ⟨(((KeepsOthers.drew _).trans (KeepsOthers.of_below J3)).trans hk2).from _, ⟨BWX, fun k cs t ht h => ?_⟩, ⟨⟨_, hv2, ?_, trivial⟩, ?_⟩, hB1.trans BWX⟩
      · have h3 : w3.heap[k]? = some (.cells cs t (0, 0)) := (J3.block k (Array.getElem?_eq_some_iff.1 h).1).trans h
        refine (Below.heap_setCell _ _ _ k (fun e => ?_)).trans (hne k cs t (by rcases ht with rfl | rfl <;> decide) h3)
        have e' : k = w.heap.size + 1 := e
        rw [e', show W.heap[w.heap.size + 1]? = _ from M0] at h
        rcases ht with rfl | rfl <;> simp at h
      · rw [List.map_append, List.map_cons, List.map_nil, Hf.out, frCells_snoc, List.length_append, List.length_singleton]; exact hr2
      · exact (Below.heap_setCell _ _ _ w.heap.size (fun e => by have e' : w.heap.size = w.heap.size + 1 := e; omega)).trans A5
    · skip
      refine wpOp_now rfl (by rfl) ?_
      go_simp
      refine hX.mono ?_
      rintro e w3 ⟨rfl, J3⟩
      have M3 : Boxed w3 (w.heap.size + 1) 143 vv := (J3.block (w.heap.size + 1) zM).trans M0
      have hr3 : w3.ownsRow w.heap.size 47 2 vv pre.length (frCells (pre.map (farS p))) := (hr0.kept (w' := W.drew) (row := none) ⟨rfl, rfl, rfl, Nat.le_refl _, fun _ _ _ => rfl⟩ (Classical.em _)).kept (w' := w3) (row := none) ⟨J3.os, J3.tape, J3.output, J3.size, fun j hj _ => J3.block j hj⟩ (Classical.em _)
      have A3 : Lies w.heap.size #[.int .i64 p.1, .int .i64 p.2] 35 w3 := (J3.block w.heap.size zA).trans A0
      have b3 : Lies Bx #[.int .i64 x.1.1, .int .i64 x.1.2, .int .i64 x.2.1, .int .i64 x.2.2] 62 w3 := (J3.block Bx zBx).trans bX
      have z3 : W.heap.size ≤ w3.heap.size := J3.size
      have hS3 : (fun w' : World => (w'.cell? ⟨Bx, 0, none⟩ = some (.int .i64 x.1.1) ∧ w'.cell? ⟨Bx, 1, none⟩ = some (.int .i64 x.1.2) ∧ w'.cell? ⟨Bx, 2, none⟩ = some (.int .i64 x.2.1) ∧ w'.cell? ⟨Bx, 3, none⟩ = some (.int .i64 x.2.2)) ∧ w'.cell? ⟨w.heap.size, 0, none⟩ = some (.int .i64 p.1) ∧ w'.cell? ⟨w.heap.size, 1, none⟩ = some (.int .i64 p.2)) w3 := ⟨b3.c4, blk_2 A3⟩
      have cm3 := M3.cell
      refine ⟨hS3, ?_⟩
      refine wpAnyH_all (rs := [0, 4]) (by kernel_rfl) (by simp) ?_
      intro i hi
      have hi' : i = 0 ∨ i = 4 := by simpa using hi
      clear hi
      rcases hi' with rfl | rfl
      · skip
        refine YieldsIf.wpOp (S := fun w' => w' = w3) (v := vv) rfl (Or.inl ⟨by rfl, by rintro w' rfl; go_simp⟩) rfl ⟨hS3, ?_⟩
        refine wpAnyH_all (rs := [4]) (by kernel_rfl) (by simp) ?_
        intro i hi
        obtain rfl : i = 4 := by simpa using hi
        have B34 : Below w3.heap.size w3 (w3.alloc (.cells #[.int .i64 f.1, .int .i64 f.2] 47)) := (by repeat (first | exact bw_refl _ | assumption | apply bw_drewN | apply bw_drew | apply bw_alloc | refine bw_set ?_ (by simp) _))
        have hS4 : (fun w' : World => (w'.cell? ⟨Bx, 0, none⟩ = some (.int .i64 x.1.1) ∧ w'.cell? ⟨Bx, 1, none⟩ = some (.int .i64 x.1.2) ∧ w'.cell? ⟨Bx, 2, none⟩ = some (.int .i64 x.2.1) ∧ w'.cell? ⟨Bx, 3, none⟩ = some (.int .i64 x.2.2)) ∧ w'.cell? ⟨w.heap.size, 0, none⟩ = some (.int .i64 p.1) ∧ w'.cell? ⟨w.heap.size, 1, none⟩ = some (.int .i64 p.2)) (w3.alloc (.cells #[.int .i64 f.1, .int .i64 f.2] 47)) := ⟨(b3.below B34).c4, blk_2 (A3.below B34)⟩
        refine wpOp_now rfl (by rfl) ?_
        go_simp
        refine wpAnyH_all (rs := [5]) (by kernel_rfl) (by simp) ?_
        intro i hi
        obtain rfl : i = 5 := by simpa using hi
        refine wpOp_now rfl (by rfl) ?_
        refine wp_append_lies _ _ _ _ (by rfl) w.heap.size 47 i0 _ 2 16 Tryz.underlying143 hi0 hz0 hz1 hz2 rfl (by omega) _ pre.length _ (by rfl) (hr3.alloc _) ⟨w3.heap.size, 0, none⟩ 1 1 [.int .i64 f.1, .int .i64 f.2] (by rfl) (by rfl) (World.news_of_block (cs := #[.int .i64 f.1, .int .i64 f.2]) (t := 47) (fr := (0, 0)) (heap_alloc_new w3 _)) (by simp [Value.oneCell']) (by omega) hmax (by omega) (by simp; omega) (w3.heap.size + 1) (by simp) ?_
        intro gg cg w5 hown5 hgr5 hat5 hlt5
        obtain ⟨hv1, hv2, hr2, hk2, hb2⟩ := M3.appended (by decide) hr3 (by omega) (by omega) hown5 hgr5
        have hne : ∀ (k : Nat) (cs : Array Value) (t : TypeId), t ≠ 47 → w3.heap[k]? = some (.cells cs t (0, 0)) → w5.heap[k]? = some (.cells cs t (0, 0)) := fun k cs t ht h => by
          refine (hgr5.block k (by have := (Array.getElem?_eq_some_iff.1 h).1; simp; omega) (fun e => ?_)).trans ((B34.block k (Array.getElem?_eq_some_iff.1 h).1).trans h)
          rcases hr3.2 with ⟨e1, _⟩ | ⟨g0, c0', cur0, e1, _, hg0, _⟩
          · subst e1; cases e
          · subst e1
            have e' : k = g0 := Option.some.inj e
            rw [e', hg0] at h; cases h; exact ht rfl
        have A5 : Lies w.heap.size #[.int .i64 p.1, .int .i64 p.2] 35 w5 := hne _ _ _ (by decide) A3
        have b5 : Lies Bx #[.int .i64 x.1.1, .int .i64 x.1.2, .int .i64 x.2.1, .int .i64 x.2.2] 62 w5 := hne _ _ _ (by decide) b3
        have hS5 : (fun w' : World => (w'.cell? ⟨Bx, 0, none⟩ = some (.int .i64 x.1.1) ∧ w'.cell? ⟨Bx, 1, none⟩ = some (.int .i64 x.1.2) ∧ w'.cell? ⟨Bx, 2, none⟩ = some (.int .i64 x.2.1) ∧ w'.cell? ⟨Bx, 3, none⟩ = some (.int .i64 x.2.2)) ∧ w'.cell? ⟨w.heap.size, 0, none⟩ = some (.int .i64 p.1) ∧ w'.cell? ⟨w.heap.size, 1, none⟩ = some (.int .i64 p.2)) w5 := ⟨b5.c4, blk_2 A5⟩
        refine ⟨hS5, ?_⟩
        simp only [Act.put, List.setIfInBounds_toArray]
        refine wpAnyH_all (rs := [6]) (by kernel_rfl) (by simp) ?_
        intro i hi
        obtain rfl : i = 6 := by simpa using hi
        have hc1 := hv1.cell
        have hf1 := hv1.frozen
        refine wpOp_now rfl (by rfl) ?_
        go_simp
        refine wpAnyH_done (by kernel_rfl) ?_ _
        have BWX : Below w.heap.size W (w5.setCell ⟨w.heap.size + 1, 0, none⟩ (.slice (some ⟨gg, 0, none⟩) (pre.length + 1) cg)) := ((Below.refl _ W).drew.trans (J3.mono hzW)).trans hb2
        refine ⟨(((KeepsOthers.drew _).trans (KeepsOthers.of_below J3)).trans hk2).from _, ⟨BWX, fun k cs t ht h => ?_⟩, ⟨⟨_, hv2, ?_, trivial⟩, ?_⟩, hB1.trans BWX⟩
        · have h3 : w3.heap[k]? = some (.cells cs t (0, 0)) := (J3.block k (Array.getElem?_eq_some_iff.1 h).1).trans h
          refine (Below.heap_setCell _ _ _ k (fun e => ?_)).trans (hne k cs t (by rcases ht with rfl | rfl <;> decide) h3)
          have e' : k = w.heap.size + 1 := e
          rw [e', show W.heap[w.heap.size + 1]? = _ from M0] at h
          rcases ht with rfl | rfl <;> simp at h
        · rw [List.map_append, List.map_cons, List.map_nil, Hf.out, frCells_snoc, List.length_append, List.length_singleton]; exact hr2
        · exact (Below.heap_setCell _ _ _ w.heap.size (fun e => by have e' : w.heap.size = w.heap.size + 1 := e; omega)).trans A5
      · skip
        have B34 : Below w3.heap.size w3 (w3.alloc (.cells #[.int .i64 f.1, .int .i64 f.2] 47)) := (by repeat (first | exact bw_refl _ | assumption | apply bw_drewN | apply bw_drew | apply bw_alloc | refine bw_set ?_ (by simp) _))
        have hS4 : (fun w' : World => (w'.cell? ⟨Bx, 0, none⟩ = some (.int .i64 x.1.1) ∧ w'.cell? ⟨Bx, 1, none⟩ = some (.int .i64 x.1.2) ∧ w'.cell? ⟨Bx, 2, none⟩ = some (.int .i64 x.2.1) ∧ w'.cell? ⟨Bx, 3, none⟩ = some (.int .i64 x.2.2)) ∧ w'.cell? ⟨w.heap.size, 0, none⟩ = some (.int .i64 p.1) ∧ w'.cell? ⟨w.heap.size, 1, none⟩ = some (.int .i64 p.2)) (w3.alloc (.cells #[.int .i64 f.1, .int .i64 f.2] 47)) := ⟨(b3.below B34).c4, blk_2 (A3.below B34)⟩
        refine wpOp_now rfl (by rfl) ?_
        go_simp
        have cm4 := (M3.alloc (.cells #[.int .i64 f.1, .int .i64 f.2] 47)).cell
        refine wpAnyH_all (rs := [0]) (by kernel_rfl) (by simp) ?_
        intro i hi
        obtain rfl : i = 0 := by simpa using hi
        refine YieldsIf.wpOp (S := fun w' => w' = w3.alloc (.cells #[.int .i64 f.1, .int .i64 f.2] 47)) (v := vv) rfl (Or.inl ⟨by rfl, by rintro w' rfl; go_simp⟩) rfl ⟨hS4, ?_⟩
        refine wpAnyH_all (rs := [5]) (by kernel_rfl) (by simp) ?_
        intro i hi
        obtain rfl : i = 5 := by simpa using hi
        refine wpOp_now rfl (by rfl) ?_
        refine wp_append_lies _ _ _ _ (by rfl) w.heap.size 47 i0 _ 2 16 Tryz.underlying143 hi0 hz0 hz1 hz2 rfl (by omega) _ pre.length _ (by rfl) (hr3.alloc _) ⟨w3.heap.size, 0, none⟩ 1 1 [.int .i64 f.1, .int .i64 f.2] (by rfl) (by rfl) (World.news_of_block (cs := #[.int .i64 f.1, .int .i64 f.2]) (t := 47) (fr := (0, 0)) (heap_alloc_new w3 _)) (by simp [Value.oneCell']) (by omega) hmax (by omega) (by simp; omega) (w3.heap.size + 1) (by simp) ?_
        intro gg cg w5 hown5 hgr5 hat5 hlt5
        obtain ⟨hv1, hv2, hr2, hk2, hb2⟩ := M3.appended (by decide) hr3 (by omega) (by omega) hown5 hgr5
        have hne : ∀ (k : Nat) (cs : Array Value) (t : TypeId), t ≠ 47 → w3.heap[k]? = some (.cells cs t (0, 0)) → w5.heap[k]? = some (.cells cs t (0, 0)) := fun k cs t ht h => by
          refine (hgr5.block k (by have := (Array.getElem?_eq_some_iff.1 h).1; simp; omega) (fun e => ?_)).trans ((B34.block k (Array.getElem?_eq_some_iff.1 h).1).trans h)
          rcases hr3.2 with ⟨e1, _⟩ | ⟨g0, c0', cur0, e1, _, hg0, _⟩
          · subst e1; cases e
          · subst e1
            have e' : k = g0 := Option.some.inj e
            rw [e', hg0] at h; cases h; exact ht rfl
        have A5 : Lies w.heap.size #[.int .i64 p.1, .int .i64 p.2] 35 w5 := hne _ _ _ (by decide) A3
        have b5 : Lies Bx #[.int .i64 x.1.1, .int .i64 x.1.2, .int .i64 x.2.1, .int .i64 x.2.2] 62 w5 := hne _ _ _ (by decide) b3
        have hS5 : (fun w' : World => (w'.cell? ⟨Bx, 0, none⟩ = some (.int .i64 x.1.1) ∧ w'.cell? ⟨Bx, 1, none⟩ = some (.int .i64 x.1.2) ∧ w'.cell? ⟨Bx, 2, none⟩ = some (.int .i64 x.2.1) ∧ w'.cell? ⟨Bx, 3, none⟩ = some (.int .i64 x.2.2)) ∧ w'.cell? ⟨w.heap.size, 0, none⟩ = some (.int .i64 p.1) ∧ w'.cell? ⟨w.heap.size, 1, none⟩ = some (.int .i64 p.2)) w5 := ⟨b5.c4, blk_2 A5⟩
        refine ⟨hS5, ?_⟩
        simp only [Act.put, List.setIfInBounds_toArray]
        refine wpAnyH_all (rs := [6]) (by kernel_rfl) (by simp) ?_
        intro i hi
        obtain rfl : i = 6 := by simpa using hi
        have hc1 := hv1.cell
        have hf1 := hv1.frozen
        refine wpOp_now rfl (by rfl) ?_
        go_simp
        refine wpAnyH_done (by kernel_rfl) ?_ _
        have BWX : Below w.heap.size W (w5.setCell ⟨w.heap.size + 1, 0, none⟩ (.slice (some ⟨gg, 0, none⟩) (pre.length + 1) cg)) := ((Below.refl _ W).drew.trans (J3.mono hzW)).trans hb2
        refine ⟨(((KeepsOthers.drew _).trans (KeepsOthers.of_below J3)).trans hk2).from _, ⟨BWX, fun k cs t ht h => ?_⟩, ⟨⟨_, hv2, ?_, trivial⟩, ?_⟩, hB1.trans BWX⟩
        · have h3 : w3.heap[k]? = some (.cells cs t (0, 0)) := (J3.block k (Array.getElem?_eq_some_iff.1 h).1).trans h
          refine (Below.heap_setCell _ _ _ k (fun e => ?_)).trans (hne k cs t (by rcases ht with rfl | rfl <;> decide) h3)
          have e' : k = w.heap.size + 1 := e
          rw [e', show W.heap[w.heap.size + 1]? = _ from M0] at h
          rcases ht with rfl | rfl <;> simp at h
        · rw [List.map_append, List.map_cons, List.map_nil, Hf.out, frCells_snoc, List.length_append, List.length_singleton]; exact hr2
        · exact (Below.heap_setCell _ _ _ w.heap.size (fun e => by have e' : w.heap.size = w.heap.size + 1 := e; omega)).trans A5
  case done =>
    rintro D W hD ⟨⟨⟨vv, M0, hr0, _⟩, A0⟩, hB1⟩ hK
    have cR := M0.cell
    gi_wp2
    refine ⟨by simp, .inl ⟨_, _, rfl, run_takeDeferred hK, ?_⟩⟩
    exact ⟨vv, by simp [results, Tryz.results100, go_sem], vv, rfl, ownsRow_putObj hr0 _ hK rfl, hB1.trans (belowK_b (w := w) (Nat.le_refl _) _ D _ _ (by omega) hK rfl rfl)⟩
end Go.Proofs.YtmdjhoknlplecaaGreatDoor
namespace Go.Proofs.YtmdjhoknlplecaaGreatDoor

/-- The least of some fractions. -/
def leastL : List (Int × Int) → Int × Int
  | [] => (0, 0)
  | f :: fs => fs.foldl mn f
/-- It is one of them, and not more than any. -/
structure LeastOf (m : Int × Int) (fs : List (Int × Int)) : Prop where
  mem : m ∈ fs
  le : ∀ f ∈ fs, LeF m f
theorem foldl_mn (fs : List (Int × Int)) : ∀ (f0 : Int × Int), OkF f0 → (∀ f ∈ fs, OkF f) → LeastOf (fs.foldl mn f0) (f0 :: fs) ∧ OkF (fs.foldl mn f0) := by
  induction fs with
  | nil => intro f0 h0 _; exact ⟨⟨by simp, fun f hf => by simp at hf; rw [hf]; exact LeF.refl _⟩, h0⟩
  | cons g fs ih =>
    intro f0 h0 h
    have hg := h g (by simp)
    have ho := mn_ok h0 hg
    obtain ⟨⟨h1, h2⟩, h3⟩ := ih (mn f0 g) ho (fun f hf => h f (by simp [hf]))
    refine ⟨⟨?_, fun f hf => ?_⟩, h3⟩
    · rcases List.mem_cons.1 h1 with e | e
      · rcases mn_mem f0 g with e2 | e2
        · rw [List.foldl_cons, e, e2]; simp
        · rw [List.foldl_cons, e, e2]; simp
      · exact List.mem_cons_of_mem _ (List.mem_cons_of_mem _ e)
    · have hm := h2 (mn f0 g) (by simp)
      rcases List.mem_cons.1 hf with e | e
      · subst e; exact LeF.trans h3 ho h0 hm (mn_le1 _ _)
      · rcases List.mem_cons.1 e with e | e
        · subst e; exact LeF.trans h3 ho hg hm (mn_le2 _ _)
        · exact h2 f (List.mem_cons_of_mem _ e)
theorem leastL_of {fs : List (Int × Int)} (hne : fs ≠ []) (h : ∀ f ∈ fs, OkF f) : LeastOf (leastL fs) fs := by
  cases fs with
  | nil => exact absurd rfl hne
  | cons f fs => exact (foldl_mn fs f (h f (by simp)) (fun g hg => h g (by simp [hg]))).1
theorem leastL_ok {fs : List (Int × Int)} (hne : fs ≠ []) (h : ∀ f ∈ fs, OkF f) : OkF (leastL fs) := h _ (leastL_of hne h).mem
theorem LeastOf.unique {m m' : Int × Int} {fs : List (Int × Int)} (h : ∀ f ∈ fs, OkF f) (a : LeastOf m fs) (b : LeastOf m' fs) : m = m' :=
  LeF.antisymm (h _ a.mem) (h _ b.mem) (a.le _ b.mem) (b.le _ a.mem)
theorem LeastOf.congr {m : Int × Int} {fs gs : List (Int × Int)} (a : LeastOf m fs) (h : ∀ f, f ∈ fs ↔ f ∈ gs) : LeastOf m gs := ⟨(h _).1 a.mem, fun f hf => a.le f ((h f).2 hf)⟩
theorem leastL_congr {fs gs : List (Int × Int)} (hok : ∀ f ∈ fs, OkF f) (h : ∀ f, f ∈ fs ↔ f ∈ gs) : leastL fs = leastL gs := by
  cases fs with
  | nil => cases gs with
    | nil => rfl
    | cons g gs => exact absurd ((h g).2 (by simp)) (by simp)
  | cons f fs =>
    have hgs : gs ≠ [] := by rintro rfl; exact absurd ((h f).1 (by simp)) (by simp)
    exact ((leastL_of (by simp) hok).congr h).unique (fun g hg => hok g ((h g).2 hg)) (leastL_of hgs fun g hg => hok g ((h g).2 hg))
/-- The least of more is the least of both leasts. -/
theorem leastL_append {fs gs : List (Int × Int)} (hf : fs ≠ []) (hg : gs ≠ []) (okf : ∀ f ∈ fs, OkF f) (okg : ∀ f ∈ gs, OkF f) : leastL (fs ++ gs) = mn (leastL fs) (leastL gs) := by
  have a := leastL_of hf okf
  have b := leastL_of hg okg
  have ok : ∀ f ∈ fs ++ gs, OkF f := fun f h => (List.mem_append.1 h).elim (okf f) (okg f)
  refine (leastL_of (by simp [hf]) ok).unique ok ⟨?_, fun f h => ?_⟩
  · rcases mn_mem (leastL fs) (leastL gs) with e | e
    · rw [e]; exact List.mem_append_left _ a.mem
    · rw [e]; exact List.mem_append_right _ b.mem
  · have oa := okf _ a.mem
    have ob := okg _ b.mem
    rcases List.mem_append.1 h with h | h
    · exact LeF.trans (mn_ok oa ob) oa (okf f h) (mn_le1 (leastL fs) (leastL gs)) (a.le f h)
    · exact LeF.trans (mn_ok oa ob) ob (okg f h) (mn_le2 (leastL fs) (leastL gs)) (b.le f h)
end Go.Proofs.YtmdjhoknlplecaaGreatDoor
namespace Go.Proofs.YtmdjhoknlplecaaGreatDoor
open Go.RowKit Go.Sort

theorem farS_of {p : P2} {s : P2 × P2} (hs : sgP s.1 s.2 = true) (hp : ptB p.1 p.2 = true) : farS p s = far s.1.1 s.1.2 s.2.1 s.2.2 p.1 p.2 := farV_ok hs hp
theorem farS_ok {p : P2} {s : P2 × P2} (hs : sgP s.1 s.2 = true) (hp : ptB p.1 p.2 = true) : OkF (farS p s) := by rw [farS_of hs hp]; exact far_ok hs hp
theorem plE_eq {o : List P2} {hs : List (List P2)} (hv : plV o hs = true) : plE o hs = segsL o ++ hs.flatMap segsL := by unfold plE; rw [hv, if_pos rfl]
theorem plE_ne {o : List P2} {hs : List (List P2)} (hv : plV o hs = true) : 3 ≤ (plE o hs).length := by
  have L := (plV_iff o hs).1 hv
  have := (okV_pos L.out).1
  rw [plE_eq hv, List.length_append, segsL_len]; omega
/-- How far a point is from the nearest edge. -/
def plFI (o : List P2) (hs : List (List P2)) (p : P2) : Int × Int := leastL ((plE o hs).map (farS p))
/-- The same, where all is ok; else nothing. -/
def plFV (o : List P2) (hs : List (List P2)) (p : P2) : Int × Int := if plV o hs && ptB p.1 p.2 then plFI o hs p else (0, 0)
theorem plFV_ok {o : List P2} {hs : List (List P2)} {p : P2} (hv : plV o hs = true) (hp : ptB p.1 p.2 = true) : plFV o hs p = plFI o hs p := by unfold plFV; rw [hv, hp]; rfl
theorem plFV_no {o : List P2} {hs : List (List P2)} {p : P2} (h : plV o hs = false ∨ ptB p.1 p.2 = false) : plFV o hs p = (0, 0) := by
  unfold plFV
  rcases h with h | h
  · rw [h]; rfl
  · rw [h, Bool.and_false]; rfl
theorem plE_far {o : List P2} {hs : List (List P2)} {p : P2} (hv : plV o hs = true) (hp : ptB p.1 p.2 = true) : ∀ f ∈ (plE o hs).map (farS p), OkF f := by
  intro f hf
  obtain ⟨s, h, rfl⟩ := List.mem_map.1 hf
  exact farS_ok (plE_ok hv h) hp
theorem plFI_least {o : List P2} {hs : List (List P2)} {p : P2} (hv : plV o hs = true) (hp : ptB p.1 p.2 = true) : LeastOf (plFI o hs p) ((plE o hs).map (farS p)) :=
  leastL_of (by intro e; have := plE_ne hv; have e2 := congrArg List.length e; rw [List.length_map, List.length_nil] at e2; omega) (plE_far hv hp)
theorem plFI_ok {o : List P2} {hs : List (List P2)} {p : P2} (hv : plV o hs = true) (hp : ptB p.1 p.2 = true) : OkF (plFI o hs p) := plE_far hv hp _ (plFI_least hv hp).mem
theorem plFI_mem {o : List P2} {hs : List (List P2)} {p : P2} (hv : plV o hs = true) (hp : ptB p.1 p.2 = true) : ∃ j, j < (plE o hs).length ∧ farS p (sAt (plE o hs) j) = plFI o hs p := by
  obtain ⟨s, h, e⟩ := List.mem_map.1 (plFI_least hv hp).mem
  obtain ⟨j, hj, rfl⟩ := List.getElem_of_mem h
  exact ⟨j, hj, by unfold sAt; rw [List.getElem?_eq_getElem hj, Option.getD_some]; exact e⟩
theorem plFI_le {o : List P2} {hs : List (List P2)} {p : P2} (hv : plV o hs = true) (hp : ptB p.1 p.2 = true) {j : Nat} (hj : j < (plE o hs).length) : LeF (plFI o hs p) (farS p (sAt (plE o hs) j)) :=
  (plFI_least hv hp).le _ (List.mem_map.2 ⟨_, sAt_mem hj, rfl⟩)
/-- It is 0 just on an edge. -/
theorem plFI_zero {o : List P2} {hs : List (List P2)} {p : P2} (hv : plV o hs = true) (hp : ptB p.1 p.2 = true) : plFI o hs p = (0, 1) ↔ plI o hs p = 0 := by
  rw [plI_zero hv, ← plE_on hv p]
  have z : ∀ j, j < (plE o hs).length → (farS p (sAt (plE o hs) j) = (0, 1) ↔ hasP (sAt (plE o hs) j).1 (sAt (plE o hs) j).2 p = true) := fun j hj => by
    have hs := plE_ok hv (sAt_mem hj)
    rw [farS_of hs hp, ← ok_zero (far_ok hs hp)]
    exact far_zero hs hp
  constructor
  · intro h
    obtain ⟨j, hj, e⟩ := plFI_mem hv hp
    exact ⟨j, hj, (z j hj).1 (by rw [e]; exact h)⟩
  · rintro ⟨j, hj, h⟩
    have hl := plFI_le hv hp hj
    rw [(z j hj).2 h] at hl
    have hp' := (plFI_ok hv hp).pos
    unfold LeF at hl
    exact (ok_zero (plFI_ok hv hp)).1 (by dsimp only at hl; omega)
theorem ptAt_mem {l : List P2} {i : Nat} (h : i < l.length) : ptAt l i ∈ l := by unfold ptAt; rw [List.getElem?_eq_getElem h, Option.getD_some]; exact List.getElem_mem _
theorem okV_plV {l : List P2} (h : okV l = true) : plV l [] = true := h
theorem segsL_ne {l : List P2} (h : okV l = true) (p : P2) : (segsL l).map (farS p) ≠ [] := by
  intro e
  have := congrArg List.length e
  rw [List.length_map, segsL_len, List.length_nil] at this
  have := (okV_pos h).1
  omega
/-- With a hole more it is the lesser of what it was, and how far that hole is. -/
theorem plFI_snoc {o h : List P2} {hs : List (List P2)} {p : P2} (hv : plV o (hs ++ [h]) = true) (hp : ptB p.1 p.2 = true) : plFI o (hs ++ [h]) p = mn (plFI o hs p) (plFI h [] p) := by
  have hv' : plV o hs = true := by have := plV_less hv; rwa [List.dropLast_concat] at this
  have L := (plV_iff _ _).1 hv
  have ok := L.ok h (by simp)
  have ho := plE_far hv' hp
  have hh := plE_far (okV_plV ok) hp
  have e : plE o (hs ++ [h]) = plE o hs ++ plE h [] := by rw [plE_eq hv, plE_eq hv', plE_eq (okV_plV ok)]; simp
  unfold plFI
  rw [e, List.map_append]
  refine leastL_append ?_ ?_ ho hh
  · intro e; have := plE_ne hv'; have e2 := congrArg List.length e; rw [List.length_map, List.length_nil] at e2; omega
  · intro e; have := plE_ne (okV_plV ok); have e2 := congrArg List.length e; rw [List.length_map, List.length_nil] at e2; omega
/-- What moves points, and leaves how far they are. -/
theorem segsL_map (f : P2 → P2) (l : List P2) : segsL (l.map f) = (segsL l).map fun s => (f s.1, f s.2) := by
  unfold segsL
  rw [List.length_map, List.map_map]
  refine List.map_congr_left fun i hi => ?_
  have h1 : i < l.length := List.mem_range.1 hi
  simp only [Function.comp, map_nxt]
  rw [map_at h1, map_at (nxt_lt (by omega))]
theorem plFI_map {f : P2 → P2} {o : List P2} {hs : List (List P2)} {p : P2} (hv : plV o hs = true) (hv' : plV (o.map f) (hs.map (List.map f)) = true) (hf : ∀ s ∈ plE o hs, farS (f p) (f s.1, f s.2) = farS p s) : plFI (o.map f) (hs.map (List.map f)) (f p) = plFI o hs p := by
  unfold plFI
  have e : plE (o.map f) (hs.map (List.map f)) = (plE o hs).map fun s => (f s.1, f s.2) := by
    rw [plE_eq hv, plE_eq hv', segsL_map, List.map_append, List.flatMap_map, List.map_flatMap]
    simp only [segsL_map]
  rw [e, List.map_map]
  exact congrArg leastL (List.map_congr_left fun s h => hf s h)
theorem plFI_mir {o : List P2} {hs : List (List P2)} {p : P2} (hv : plV o hs = true) (hp : ptB p.1 p.2 = true) : plFI (o.map mirP) (hs.map (List.map mirP)) (mirP p) = plFI o hs p :=
  plFI_map hv (plV_turn turns_mir hv) fun s h => by
    have hs := plE_ok hv h
    have hs' : sgP (mirP s.1) (mirP s.2) = true := mir_side.sg _ _ hs
    have hp' : ptB (mirP p).1 (mirP p).2 = true := by rw [ptB_iff] at hp ⊢; unfold mirP; dsimp only; omega
    rw [farS_of (s := (mirP s.1, mirP s.2)) hs' hp', farS_of hs hp]
    exact far_mir _ _ _ _ _ _
theorem plFI_swp {o : List P2} {hs : List (List P2)} {p : P2} (hv : plV o hs = true) (hp : ptB p.1 p.2 = true) : plFI (o.map swpP) (hs.map (List.map swpP)) (swpP p) = plFI o hs p :=
  plFI_map hv (plV_turn turns_swp hv) fun s h => by
    have hs := plE_ok hv h
    have hs' : sgP (swpP s.1) (swpP s.2) = true := swp_side.sg _ _ hs
    have hp' : ptB (swpP p).1 (swpP p).2 = true := by rw [ptB_iff] at hp ⊢; unfold swpP; dsimp only; omega
    rw [farS_of (s := (swpP s.1, swpP s.2)) hs' hp', farS_of hs hp]
    exact far_swap _ _ _ _ _ _
/-- In a plate on the other side what is in is in. -/
theorem plI_map {f : P2 → P2} (hf : ∀ l p, inI (l.map f) (f p) = inI l p) (o : List P2) (hs : List (List P2)) (p : P2) : plI (o.map f) (hs.map (List.map f)) (f p) = plI o hs p := by
  unfold plI
  rw [List.foldl_map, hf]
  simp only [hf]
end Go.Proofs.YtmdjhoknlplecaaGreatDoor
