/-
  OUR OWN TEXT. The law FnMayApart, for every input: the call returns true, and each argument reads as it did. Texts of ours, joined, so that the claim keeps to its number of files. Conditions: none but the row's own.
-/
import Derived.Test.YtmdjhoknlplecaaGreatDoorDrawPlate
import Derived.Test.YtmdjhoknlplecaaGreatDoorRoundQ
import Derived.Deep.RegionHeld3
import Derived.Test.YtmdjhoknlplecaaGreatDoorDrawLoop
import Derived.RangeFuncNested
import Derived.Test.YtmdjhoknlplecaaGreatDoorEdgeK
import Derived.Test.YtmdjhoknlplecaaGreatDoorEqPts
import Derived.Test.YtmdjhoknlplecaaGreatDoorSEdge
import Derived.Test.YtmdjhoknlplecaaGreatDoorReader
import Derived.Test.YtmdjhoknlplecaaGreatDoorSOk
import Derived.Test.YtmdjhoknlplecaaGreatDoorEdgeS
import Derived.Test.YtmdjhoknlplecaaGreatDoorRings
import Derived.Test.YtmdjhoknlplecaaGreatDoorFree
import Derived.Test.YtmdjhoknlplecaaGreatDoorWhere
import Derived.Test.YtmdjhoknlplecaaGreatDoorPlateI
import Derived.Test.YtmdjhoknlplecaaGreatDoorMath
import Derived.Test.YtmdjhoknlplecaaGreatDoorBw
import Derived.WalkKit
import Derived.Deep.QuietTactic
import Derived.BigQuiet
import Derived.Test.YtmdjhoknlplecaaGreatDoorChecked
import Derived.LaidEql
import Derived.Stop.Asserts
import Derived.RowKitTokens
import Derived.Deep.RegionWith
import Derived.Below
import Derived.Test.YtmdjhoknlplecaaGreatDoorBoxes
import Derived.Test.YtmdjhoknlplecaaGreatDoorSHas
import Derived.Laws.EntriesVeiled
import Derived.Test.YtmdjhoknlplecaaGreatDoorGeoApart
import Derived.Test.YtmdjhoknlplecaaGreatDoorSPlateOk
import Derived.Test.YtmdjhoknlplecaaGreatDoorOk
import Derived.Test.YtmdjhoknlplecaaGreatDoorBoard
import Derived.Deep.DeepAppendWide
namespace Go.Proofs.YtmdjhoknlplecaaGreatDoor
open Go.RowKit

theorem lies_set0 {b : Nat} {x y z : Value} {t : TypeId} {W : World} (h : Lies b #[x, y] t W) : Lies b #[z, y] t (W.setCell ⟨b, 0, none⟩ z) := by
  unfold Lies at h ⊢
  exact setCell_row h z
theorem blk_ne_own {W : World} {base g c n gh ch m : Nat} {l : List P2} {xs : List Value} (h : PtBlk W g c l n) (ho : W.ownsRow base 30 1 (.slice (some ⟨gh, 0, none⟩) m ch) m xs) : g ≠ gh := by
  rintro rfl
  obtain ⟨cur, hc, _⟩ := h
  rcases ho.2 with ⟨e, _⟩ | ⟨g', c', cur', e, hb, hg, _⟩
  · cases e
  · cases e; rw [hc] at hg; simp at hg
theorem LoopT.ok.lt {base : Nat} {W : World} {t : LoopT} (h : t.ok base W) : t.g < W.heap.size := by obtain ⟨_, _, _, _, _, _, h7⟩ := h; exact h7.lt
/-- What a drawn plate is. -/
def DrawnP (base r : Nat) (a : Option Addr) (len cap k : Nat) (w : World) (e : Ending) (w' : World) : Prop :=
  ∃ (o : LoopT) (hv : Value) (hs : List LoopT) (k' : Nat), e = .returned (.agg #[o.v, hv]) ∧ PlD base w' o hv hs ∧ (hs.length ≤ 3 ∧ Seat hv) ∧ k' ≤ k ∧ Rd w' r k' a len cap ∧ Only r w w'
set_option maxRecDepth 100000 in
set_option maxHeartbeats 8000000 in
theorem plate_any (k : Nat) (a : Option Addr) (len cap r : Nat) (w : World) (hk : k ≤ 600000) (R : Rd w r k a len cap) :
    Calls Tryz.prog 50 #[.pointer (some ⟨r, 0, none⟩)] w (DrawnP w.heap.size r a len cap (k + 200) w) := by
  obtain ⟨i0, hi0, hz0, hz1, hz2⟩ := info_parts Tryz.infoPts
  obtain ⟨j0, hj0, jz0, jz1, jz2⟩ := info_parts Tryz.infoPt
  have hlt := R.lt
  have P := (Only.refl r w).alloc (.cells #[.slice none 0 0, .slice none 0 0] 33)
  have Z : Lies w.heap.size #[.slice none 0 0, .slice none 0 0] 33 (w.alloc (.cells #[.slice none 0 0, .slice none 0 0] 33)) := Lies.new w _ _
  replace R := R.alloc (.cells #[.slice none 0 0, .slice none 0 0] 33)
  go_enter Tryz.func50, Tryz.ntmps50
  go_wp2_with fail
  refine (good_any k a len cap r _ (by omega) R).mono ?_
  clear R
  rintro e w1 ⟨⟨g, n, c, l⟩, hv, hs, k1, he, hD, ⟨hs2, hn7, hst⟩, hk1, R, O⟩
  obtain rfl : e = .returned (.agg #[.slice (some ⟨g, 0, none⟩) n c, hv]) := he
  obtain ⟨gh, ch, rfl⟩ : ∃ gh ch, hv = .slice (some ⟨gh, 0, none⟩) hs.length ch := own_seat hD.2.2.1 hst
  replace hD := hD.mono (base' := w.heap.size + 1) (by simp)
  replace P := P.trans O
  replace Z : Lies w.heap.size #[.slice none 0 0, .slice none 0 0] 33 w1 := keepO O Z (by omega)
  clear O
  have z1 := Z.lt
  have Bq : Below w1.heap.size w1 (w1.alloc (.cells #[.slice (some ⟨g, 0, none⟩) n c, .slice (some ⟨gh, 0, none⟩) hs.length ch] 33)) := (by repeat (first | exact bw_refl _ | assumption | apply bw_drewN | apply bw_drew | apply bw_alloc | refine bw_set ?_ (by simp) _))
  have Lp : Lies w1.heap.size #[.slice (some ⟨g, 0, none⟩) n c, .slice (some ⟨gh, 0, none⟩) hs.length ch] 33 (w1.alloc (.cells #[.slice (some ⟨g, 0, none⟩) n c, .slice (some ⟨gh, 0, none⟩) hs.length ch] 33)) := Lies.new w1 _ _
  have hgs : ∀ t ∈ hs, t.g < w1.heap.size := fun t ht => by obtain ⟨_, _, _, _, _, _, h7⟩ := hD.2.2.2 t ht; exact h7.lt
  have hgw : g < w1.heap.size := by obtain ⟨_, _, _, _, _, _, h7⟩ := hD.1; exact h7.lt
  have hghw : gh < w1.heap.size := (hD.2.2.1.lt gh rfl).2
  have hghb : w.heap.size + 1 ≤ gh := (hD.2.2.1.lt gh rfl).1
  replace R := R.below Bq
  replace P := P.trans (Only.of_below Bq)
  replace Z := Z.below Bq
  replace hD := hD.below Bq
  clear Bq
  go_wp2_with fail
  refine (pick_rd 24 k1 a len cap r _ (by omega) (by omega) R).mono ?_
  clear R
  rintro e w2 ⟨q, rfl, qa, qb, R, O⟩
  replace P := P.trans O
  replace Z : Lies w.heap.size #[.slice none 0 0, .slice none 0 0] 33 w2 := keepO O Z (by omega)
  replace Lp : Lies w1.heap.size #[.slice (some ⟨g, 0, none⟩) n c, .slice (some ⟨gh, 0, none⟩) hs.length ch] 33 w2 := keepO O Lp (by omega)
  replace hD := hD.only O (by omega)
  clear O
  obtain ⟨d0, d1, f0, f1⟩ := lies2 Lp
  obtain ⟨y0, y1, yf0, yf1⟩ := lies2 Z
  have z2 := Lp.lt
  have hmx : Tryz.prog.follows .mixedOrders = true := by kernel_rfl
  have hmax : hs.length + 1 ≤ maxLen := by simp [maxLen]; omega
  have hq : q = 0 ∨ q = 1 ∨ q = 2 ∨ (q ≠ 0 ∧ q ≠ 1 ∧ q ≠ 2) := by omega
  rcases hq with rfl | rfl | rfl | ⟨q0, q1, q2⟩
  · go_wp2_with fail
    refine (loop_any (k1 + 1) a len cap r _ (by omega) R).mono ?_
    clear R
    rintro e w3 ⟨g3, n3, c3, l3, k3, rfl, h3, h7, hl3, hc3, hm3, hb3, hB3, hk3, R, O⟩
    replace P := P.trans O
    replace Z : Lies w.heap.size #[.slice none 0 0, .slice none 0 0] 33 w3 := keepO O Z (by omega)
    replace Lp : Lies w1.heap.size #[.slice (some ⟨g, 0, none⟩) n c, .slice (some ⟨gh, 0, none⟩) hs.length ch] 33 w3 := keepO O Lp (by omega)
    replace hD := hD.only O (by omega)
    clear O d0 d1 f0 f1 y0 y1 yf0 yf1
    obtain ⟨d0, d1, f0, f1⟩ := lies2 Lp
    obtain ⟨y0, y1, yf0, yf1⟩ := lies2 Z
    have O4 : Only w1.heap.size w3 (w3.setCell ⟨w1.heap.size, 0, none⟩ (.slice (some ⟨g3, 0, none⟩) n3 c3)) := (Only.refl w1.heap.size w3).set (.inl rfl) _
    have hD4 : PlD (w.heap.size + 1) (w3.setCell ⟨w1.heap.size, 0, none⟩ (.slice (some ⟨g3, 0, none⟩) n3 c3)) ⟨g3, n3, c3, l3⟩ (.slice (some ⟨gh, 0, none⟩) hs.length ch) hs :=
      ⟨LoopT.ok.only' ⟨h3, by show n3 ≤ 8; omega, hl3, hc3, hm3, by show w.heap.size + 1 ≤ g3; omega, hB3⟩ O4 (by show g3 ≠ _; omega), hD.2.1, own_only' hD.2.2.1 O4 (fun e => by have e' : gh = w1.heap.size := Option.some.inj e; omega), fun t ht => (hD.2.2.2 t ht).only' O4 (Nat.ne_of_lt (hgs t ht))⟩
    have R4 := R.set (p := ⟨w1.heap.size, 0, none⟩) (by show r < w1.heap.size; omega) (.slice (some ⟨g3, 0, none⟩) n3 c3)
    have P4 := P.set (p := ⟨w1.heap.size, 0, none⟩) (.inr (by show w.heap.size ≤ w1.heap.size; omega)) (.slice (some ⟨g3, 0, none⟩) n3 c3)
    have Z4 : Lies w.heap.size #[.slice none 0 0, .slice none 0 0] 33 (w3.setCell ⟨w1.heap.size, 0, none⟩ (.slice (some ⟨g3, 0, none⟩) n3 c3)) := set_oth Z (by omega)
    have Z5 := setB2 (u0 := .slice (some ⟨g3, 0, none⟩) n3 c3) (u1 := .slice (some ⟨gh, 0, none⟩) hs.length ch) Z4
    obtain ⟨v0, v1, _, _⟩ := lies2 Z5
    go_wp2_with fail
    refine bodyPost_ret (v := .agg #[.slice (some ⟨g3, 0, none⟩) n3 c3, .slice (some ⟨gh, 0, none⟩) hs.length ch]) (by simp [results, Tryz.results50, go_sem, v0, v1]) rfl ?_
    generalize (w3.setCell ⟨w1.heap.size, 0, none⟩ (.slice (some ⟨g3, 0, none⟩) n3 c3)) = x4 at *
    have hD5 := (hD4.only ((Only.refl w.heap.size x4).set (p := ⟨w.heap.size, 0, none⟩) (.inl rfl) (.slice (some ⟨g3, 0, none⟩) n3 c3)) (by omega)).only ((Only.refl w.heap.size _).set (p := ⟨w.heap.size, 1, none⟩) (.inl rfl) (.slice (some ⟨gh, 0, none⟩) hs.length ch)) (by omega)
    exact ⟨⟨g3, n3, c3, l3⟩, _, hs, k3, rfl, hD5.mono (by omega), ⟨by omega, ⟨_, _, _, rfl⟩⟩, by omega, (R4.set (by show r < w.heap.size; omega) _).set (by show r < w.heap.size; omega) _, (P4.set (.inr (by show w.heap.size ≤ w.heap.size; omega)) _).set (.inr (by show w.heap.size ≤ w.heap.size; omega)) _⟩
  · have hX := loop_any (k1 + 1) a len cap r w2.drew (by omega) R.drew
    have PD := P.drew
    have ZD : Lies w.heap.size #[.slice none 0 0, .slice none 0 0] 33 w2.drew := Z
    have LpD : Lies w1.heap.size #[.slice (some ⟨g, 0, none⟩) n c, .slice (some ⟨gh, 0, none⟩) hs.length ch] 33 w2.drew := Lp
    have hDD : PlD (w.heap.size + 1) w2.drew ⟨g, n, c, l⟩ (.slice (some ⟨gh, 0, none⟩) hs.length ch) hs := hD.below (bw_drew (bw_refl _))
    go_wp2_with fail
    refine wp_region_held (S := fun _ => True) hmx ?_
    refine wpAnyH_take (i := 0) (v := .pointer (some ⟨w1.heap.size, 1, none⟩)) rfl (by kernel_rfl) (by kernel_rfl) (by kernel_rfl) (fun _ _ _ h => h) (Or.inl ⟨by rfl, by intro w' _; go_simp⟩) trivial ?_
    refine wpAnyH_take (i := 2) (v := .pointer (some ⟨r, 0, none⟩)) rfl (by kernel_rfl) (by kernel_rfl) (by kernel_rfl) (fun _ _ _ h => h) (Or.inl ⟨by rfl, by intro w' _; go_simp⟩) trivial ?_
    refine wpAnyH_all (rs := [1, 3]) (by kernel_rfl) (by simp) ?_
    intro i hi
    have hi' : i = 1 ∨ i = 3 := by simpa using hi
    clear hi
    rcases hi' with rfl | rfl
    · skip
      refine YieldsIf.wpOp (S := fun w' => w' = w2.drew) (v := .slice (some ⟨gh, 0, none⟩) hs.length ch) rfl (Or.inl ⟨by rfl, by rintro w' rfl; go_simp⟩) rfl ⟨trivial, ?_⟩
      refine wpAnyH_all (rs := [3]) (by kernel_rfl) (by simp) ?_
      intro i hi
      obtain rfl : i = 3 := by simpa using hi
      refine wpOp_now rfl (by rfl) ?_
      go_simp
      refine hX.mono ?_
      rintro e w3 ⟨g3, n3, c3, l3, k3, rfl, h3, h7, hl3, hc3, hm3, hb3, hB3, hk3, R3, O3⟩
      have P3 := PD.trans O3
      have Z3 : Lies w.heap.size #[.slice none 0 0, .slice none 0 0] 33 w3 := keepO O3 ZD (by omega)
      have Lp3 : Lies w1.heap.size #[.slice (some ⟨g, 0, none⟩) n c, .slice (some ⟨gh, 0, none⟩) hs.length ch] 33 w3 := keepO O3 LpD (by omega)
      have hD3 := hDD.only O3 (by omega)
      obtain ⟨d03, d13, f03, f13⟩ := lies2 Lp3
      have zz3 := Lp3.lt
      have zr3 := R3.lt
      have zg3 := hB3.lt
      have hb3' : w2.heap.size ≤ g3 := hb3
      refine wpAnyH_all (rs := [4]) (by kernel_rfl) (by simp) ?_
      intro i hi
      obtain rfl : i = 4 := by simpa using hi
      refine wpOp_now rfl (by rfl) ?_
      go_simp
      refine wpAnyH_all (rs := [5]) (by kernel_rfl) (by simp) ?_
      intro i hi
      obtain rfl : i = 5 := by simpa using hi
      refine wpOp_now rfl (by rfl) ?_
      refine wp_append_lies _ _ _ _ (by rfl) (w.heap.size + 1) 30 i0 _ 1 24 Tryz.underlying31 hi0 hz0 hz1 hz2 rfl (by omega) _ hs.length _ (by rfl) (hD3.2.2.1.alloc _) ⟨w3.heap.size, 0, none⟩ 1 1 [.slice (some ⟨g3, 0, none⟩) n3 c3] (by rfl) (by rfl) (World.news_of_block (cs := #[.slice (some ⟨g3, 0, none⟩) n3 c3]) (t := 30) (fr := (0, 0)) (heap_alloc_new w3 _)) (by simp [Value.oneCell']) (by omega) hmax (by omega) (by simp; omega) (w3.heap.size + 1) (by simp) ?_
      intro gg cg w5 hown5 hgr5 hat5 hlt5
      refine ⟨trivial, ?_⟩
      simp only [Act.put, List.setIfInBounds_toArray]
      refine wpAnyH_take (i := 6) (v := .pointer (some ⟨w1.heap.size, 1, none⟩)) rfl (by kernel_rfl) (by kernel_rfl) (by kernel_rfl) (fun _ _ _ h => h) (Or.inl ⟨by rfl, by intro w' _; go_simp⟩) trivial ?_
      refine wpAnyH_all (rs := [7]) (by kernel_rfl) (by simp) ?_
      intro i hi
      obtain rfl : i = 7 := by simpa using hi
      have Bq : Below w3.heap.size w3 (w3.alloc (.cells #[.slice (some ⟨g3, 0, none⟩) n3 c3] 30)) := (by repeat (first | exact bw_refl _ | assumption | apply bw_drewN | apply bw_drew | apply bw_alloc | refine bw_set ?_ (by simp) _))
      have Lp5 := lies_grown (Lp3.alloc _) hgr5 (fun e => by have e' : w1.heap.size = gh := Option.some.inj e; omega)
      have Z5' := lies_grown (Z3.alloc _) hgr5 (fun e => by have e' : w.heap.size = gh := Option.some.inj e; omega)
      obtain ⟨d05, d15, f05, f15⟩ := lies2 Lp5
      refine wpOp_now rfl (by rfl) ?_
      go_simp
      refine wpAnyH_done (by kernel_rfl) ?_ _
      simp only [Exit.then, Exit.inBlock]
      have hne3 : ∀ t : LoopT, t.ok (w.heap.size + 1) w3 → some t.g ≠ Value.ownBlock (.slice (some ⟨gh, 0, none⟩) hs.length ch) := fun t ht e => by obtain ⟨_, _, _, _, _, _, h7⟩ := ht; exact blk_ne_own h7 hD3.2.2.1 (Option.some.inj e)
      have hggn : gg ≠ w1.heap.size := hat5.elim (fun e => by have e' : gh = gg := Option.some.inj e; omega) (fun e => by omega)
      have O5 : Only w1.heap.size w5 (w5.setCell ⟨w1.heap.size, 1, none⟩ (.slice (some ⟨gg, 0, none⟩) (hs.length + 1) cg)) := (Only.refl w1.heap.size w5).set (.inl rfl) _
      have keep5 : ∀ t : LoopT, t.ok (w.heap.size + 1) w3 → t.g ≠ w1.heap.size → t.ok (w.heap.size + 1) (w5.setCell ⟨w1.heap.size, 1, none⟩ (.slice (some ⟨gg, 0, none⟩) (hs.length + 1) cg)) := fun t ht hne => ((ht.below Bq).grown hgr5 (hne3 t ht)).only' O5 hne
      have hr5 := own_only' hown5 O5 (fun e => hggn (Option.some.inj e))
      have hD4 : PlD (w.heap.size + 1) (w5.setCell ⟨w1.heap.size, 1, none⟩ (.slice (some ⟨gg, 0, none⟩) (hs.length + 1) cg)) ⟨g, n, c, l⟩ (.slice (some ⟨gg, 0, none⟩) (hs.length + 1) cg) (hs ++ [(⟨g3, n3, c3, l3⟩ : LoopT)]) := by
        refine ⟨keep5 _ hD3.1 (by show g ≠ _; omega), by simp; omega, by simpa [LoopT.v] using hr5, fun t ht => ?_⟩
        rcases List.mem_append.1 ht with h | h
        · exact keep5 t (hD3.2.2.2 t h) (Nat.ne_of_lt (hgs t h))
        · obtain rfl : t = ⟨g3, n3, c3, l3⟩ := by simpa using h
          exact keep5 _ ⟨h3, by show n3 ≤ 8; omega, hl3, hc3, hm3, by show w.heap.size + 1 ≤ g3; omega, hB3⟩ (by show g3 ≠ _; omega)
      have R4 := ((R3.below Bq).grown hgr5 (fun j e => by have e' : gh = j := Option.some.inj e; omega)).set (p := ⟨w1.heap.size, 1, none⟩) (by show r < w1.heap.size; omega) (.slice (some ⟨gg, 0, none⟩) (hs.length + 1) cg)
      have P4 := ((P3.trans (Only.of_below Bq)).grown hgr5 (fun j e => by have e' : gh = j := Option.some.inj e; omega)).set (p := ⟨w1.heap.size, 1, none⟩) (.inr (by show w.heap.size ≤ w1.heap.size; omega)) (.slice (some ⟨gg, 0, none⟩) (hs.length + 1) cg)
      have L4 := lies_set1 (z := .slice (some ⟨gg, 0, none⟩) (hs.length + 1) cg) Lp5
      have Z4 : Lies w.heap.size #[.slice none 0 0, .slice none 0 0] 33 (w5.setCell ⟨w1.heap.size, 1, none⟩ (.slice (some ⟨gg, 0, none⟩) (hs.length + 1) cg)) := set_oth Z5' (by omega)
      clear hown5 hgr5 hat5 hlt5 keep5 hr5 O5 hne3 hD3 Lp3 Z3 R3 P3 Lp5 Z5' d03 d13 f03 f13 d05 d15 f05 f15 Bq hB3 O3 hX PD ZD LpD hDD
      generalize w5.setCell ⟨w1.heap.size, 1, none⟩ (.slice (some ⟨gg, 0, none⟩) (hs.length + 1) cg) = x4 at *
      clear y0 y1 yf0 yf1 d0 d1 f0 f1
      obtain ⟨d0, d1, f0, f1⟩ := lies2 L4
      obtain ⟨y0, y1, yf0, yf1⟩ := lies2 Z4
      have Z5 := setB2 (u0 := .slice (some ⟨g, 0, none⟩) n c) (u1 := .slice (some ⟨gg, 0, none⟩) (hs.length + 1) cg) Z4
      obtain ⟨v0, v1, _, _⟩ := lies2 Z5
      go_wp2_with fail
      refine bodyPost_ret (v := .agg #[.slice (some ⟨g, 0, none⟩) n c, .slice (some ⟨gg, 0, none⟩) (hs.length + 1) cg]) (by simp [results, Tryz.results50, go_sem, v0, v1]) rfl ?_
      have hD5 := (hD4.only ((Only.refl w.heap.size x4).set (p := ⟨w.heap.size, 0, none⟩) (.inl rfl) (.slice (some ⟨g, 0, none⟩) n c)) (by omega)).only ((Only.refl w.heap.size _).set (p := ⟨w.heap.size, 1, none⟩) (.inl rfl) (.slice (some ⟨gg, 0, none⟩) (hs.length + 1) cg)) (by omega)
      exact ⟨⟨g, n, c, l⟩, _, hs ++ [(⟨g3, n3, c3, l3⟩ : LoopT)], k3, rfl, hD5.mono (by omega), ⟨by simp; try omega, ⟨_, _, _, rfl⟩⟩, by omega, (R4.set (by show r < w.heap.size; omega) _).set (by show r < w.heap.size; omega) _, (P4.set (.inr (by show w.heap.size ≤ w.heap.size; omega)) _).set (.inr (by show w.heap.size ≤ w.heap.size; omega)) _⟩
    · skip
      refine wpOp_now rfl (by rfl) ?_
      go_simp
      refine hX.mono ?_
      rintro e w3 ⟨g3, n3, c3, l3, k3, rfl, h3, h7, hl3, hc3, hm3, hb3, hB3, hk3, R3, O3⟩
      have P3 := PD.trans O3
      have Z3 : Lies w.heap.size #[.slice none 0 0, .slice none 0 0] 33 w3 := keepO O3 ZD (by omega)
      have Lp3 : Lies w1.heap.size #[.slice (some ⟨g, 0, none⟩) n c, .slice (some ⟨gh, 0, none⟩) hs.length ch] 33 w3 := keepO O3 LpD (by omega)
      have hD3 := hDD.only O3 (by omega)
      obtain ⟨d03, d13, f03, f13⟩ := lies2 Lp3
      have zz3 := Lp3.lt
      have zr3 := R3.lt
      have zg3 := hB3.lt
      have hb3' : w2.heap.size ≤ g3 := hb3
      refine wpAnyH_all (rs := [1, 4]) (by kernel_rfl) (by simp) ?_
      intro i hi
      have hi' : i = 1 ∨ i = 4 := by simpa using hi
      clear hi
      rcases hi' with rfl | rfl
      · skip
        refine YieldsIf.wpOp (S := fun w' => w' = w3) (v := .slice (some ⟨gh, 0, none⟩) hs.length ch) rfl (Or.inl ⟨by rfl, by rintro w' rfl; go_simp⟩) rfl ⟨trivial, ?_⟩
        refine wpAnyH_all (rs := [4]) (by kernel_rfl) (by simp) ?_
        intro i hi
        obtain rfl : i = 4 := by simpa using hi
        refine wpOp_now rfl (by rfl) ?_
        go_simp
        refine wpAnyH_all (rs := [5]) (by kernel_rfl) (by simp) ?_
        intro i hi
        obtain rfl : i = 5 := by simpa using hi
        refine wpOp_now rfl (by rfl) ?_
        refine wp_append_lies _ _ _ _ (by rfl) (w.heap.size + 1) 30 i0 _ 1 24 Tryz.underlying31 hi0 hz0 hz1 hz2 rfl (by omega) _ hs.length _ (by rfl) (hD3.2.2.1.alloc _) ⟨w3.heap.size, 0, none⟩ 1 1 [.slice (some ⟨g3, 0, none⟩) n3 c3] (by rfl) (by rfl) (World.news_of_block (cs := #[.slice (some ⟨g3, 0, none⟩) n3 c3]) (t := 30) (fr := (0, 0)) (heap_alloc_new w3 _)) (by simp [Value.oneCell']) (by omega) hmax (by omega) (by simp; omega) (w3.heap.size + 1) (by simp) ?_
        intro gg cg w5 hown5 hgr5 hat5 hlt5
        refine ⟨trivial, ?_⟩
        simp only [Act.put, List.setIfInBounds_toArray]
        refine wpAnyH_take (i := 6) (v := .pointer (some ⟨w1.heap.size, 1, none⟩)) rfl (by kernel_rfl) (by kernel_rfl) (by kernel_rfl) (fun _ _ _ h => h) (Or.inl ⟨by rfl, by intro w' _; go_simp⟩) trivial ?_
        refine wpAnyH_all (rs := [7]) (by kernel_rfl) (by simp) ?_
        intro i hi
        obtain rfl : i = 7 := by simpa using hi
        have Bq : Below w3.heap.size w3 (w3.alloc (.cells #[.slice (some ⟨g3, 0, none⟩) n3 c3] 30)) := (by repeat (first | exact bw_refl _ | assumption | apply bw_drewN | apply bw_drew | apply bw_alloc | refine bw_set ?_ (by simp) _))
        have Lp5 := lies_grown (Lp3.alloc _) hgr5 (fun e => by have e' : w1.heap.size = gh := Option.some.inj e; omega)
        have Z5' := lies_grown (Z3.alloc _) hgr5 (fun e => by have e' : w.heap.size = gh := Option.some.inj e; omega)
        obtain ⟨d05, d15, f05, f15⟩ := lies2 Lp5
        refine wpOp_now rfl (by rfl) ?_
        go_simp
        refine wpAnyH_done (by kernel_rfl) ?_ _
        simp only [Exit.then, Exit.inBlock]
        have hne3 : ∀ t : LoopT, t.ok (w.heap.size + 1) w3 → some t.g ≠ Value.ownBlock (.slice (some ⟨gh, 0, none⟩) hs.length ch) := fun t ht e => by obtain ⟨_, _, _, _, _, _, h7⟩ := ht; exact blk_ne_own h7 hD3.2.2.1 (Option.some.inj e)
        have hggn : gg ≠ w1.heap.size := hat5.elim (fun e => by have e' : gh = gg := Option.some.inj e; omega) (fun e => by omega)
        have O5 : Only w1.heap.size w5 (w5.setCell ⟨w1.heap.size, 1, none⟩ (.slice (some ⟨gg, 0, none⟩) (hs.length + 1) cg)) := (Only.refl w1.heap.size w5).set (.inl rfl) _
        have keep5 : ∀ t : LoopT, t.ok (w.heap.size + 1) w3 → t.g ≠ w1.heap.size → t.ok (w.heap.size + 1) (w5.setCell ⟨w1.heap.size, 1, none⟩ (.slice (some ⟨gg, 0, none⟩) (hs.length + 1) cg)) := fun t ht hne => ((ht.below Bq).grown hgr5 (hne3 t ht)).only' O5 hne
        have hr5 := own_only' hown5 O5 (fun e => hggn (Option.some.inj e))
        have hD4 : PlD (w.heap.size + 1) (w5.setCell ⟨w1.heap.size, 1, none⟩ (.slice (some ⟨gg, 0, none⟩) (hs.length + 1) cg)) ⟨g, n, c, l⟩ (.slice (some ⟨gg, 0, none⟩) (hs.length + 1) cg) (hs ++ [(⟨g3, n3, c3, l3⟩ : LoopT)]) := by
          refine ⟨keep5 _ hD3.1 (by show g ≠ _; omega), by simp; omega, by simpa [LoopT.v] using hr5, fun t ht => ?_⟩
          rcases List.mem_append.1 ht with h | h
          · exact keep5 t (hD3.2.2.2 t h) (Nat.ne_of_lt (hgs t h))
          · obtain rfl : t = ⟨g3, n3, c3, l3⟩ := by simpa using h
            exact keep5 _ ⟨h3, by show n3 ≤ 8; omega, hl3, hc3, hm3, by show w.heap.size + 1 ≤ g3; omega, hB3⟩ (by show g3 ≠ _; omega)
        have R4 := ((R3.below Bq).grown hgr5 (fun j e => by have e' : gh = j := Option.some.inj e; omega)).set (p := ⟨w1.heap.size, 1, none⟩) (by show r < w1.heap.size; omega) (.slice (some ⟨gg, 0, none⟩) (hs.length + 1) cg)
        have P4 := ((P3.trans (Only.of_below Bq)).grown hgr5 (fun j e => by have e' : gh = j := Option.some.inj e; omega)).set (p := ⟨w1.heap.size, 1, none⟩) (.inr (by show w.heap.size ≤ w1.heap.size; omega)) (.slice (some ⟨gg, 0, none⟩) (hs.length + 1) cg)
        have L4 := lies_set1 (z := .slice (some ⟨gg, 0, none⟩) (hs.length + 1) cg) Lp5
        have Z4 : Lies w.heap.size #[.slice none 0 0, .slice none 0 0] 33 (w5.setCell ⟨w1.heap.size, 1, none⟩ (.slice (some ⟨gg, 0, none⟩) (hs.length + 1) cg)) := set_oth Z5' (by omega)
        clear hown5 hgr5 hat5 hlt5 keep5 hr5 O5 hne3 hD3 Lp3 Z3 R3 P3 Lp5 Z5' d03 d13 f03 f13 d05 d15 f05 f15 Bq hB3 O3 hX PD ZD LpD hDD
        generalize w5.setCell ⟨w1.heap.size, 1, none⟩ (.slice (some ⟨gg, 0, none⟩) (hs.length + 1) cg) = x4 at *
        clear y0 y1 yf0 yf1 d0 d1 f0 f1
        obtain ⟨d0, d1, f0, f1⟩ := lies2 L4
        obtain ⟨y0, y1, yf0, yf1⟩ := lies2 Z4
        have Z5 := setB2 (u0 := .slice (some ⟨g, 0, none⟩) n c) (u1 := .slice (some ⟨gg, 0, none⟩) (hs.length + 1) cg) Z4
        obtain ⟨v0, v1, _, _⟩ := lies2 Z5
        go_wp2_with fail
        refine bodyPost_ret (v := .agg #[.slice (some ⟨g, 0, none⟩) n c, .slice (some ⟨gg, 0, none⟩) (hs.length + 1) cg]) (by simp [results, Tryz.results50, go_sem, v0, v1]) rfl ?_
        have hD5 := (hD4.only ((Only.refl w.heap.size x4).set (p := ⟨w.heap.size, 0, none⟩) (.inl rfl) (.slice (some ⟨g, 0, none⟩) n c)) (by omega)).only ((Only.refl w.heap.size _).set (p := ⟨w.heap.size, 1, none⟩) (.inl rfl) (.slice (some ⟨gg, 0, none⟩) (hs.length + 1) cg)) (by omega)
        exact ⟨⟨g, n, c, l⟩, _, hs ++ [(⟨g3, n3, c3, l3⟩ : LoopT)], k3, rfl, hD5.mono (by omega), ⟨by simp; try omega, ⟨_, _, _, rfl⟩⟩, by omega, (R4.set (by show r < w.heap.size; omega) _).set (by show r < w.heap.size; omega) _, (P4.set (.inr (by show w.heap.size ≤ w.heap.size; omega)) _).set (.inr (by show w.heap.size ≤ w.heap.size; omega)) _⟩
      · skip
        refine wpOp_now rfl (by rfl) ?_
        go_simp
        refine wpAnyH_all (rs := [1]) (by kernel_rfl) (by simp) ?_
        intro i hi
        obtain rfl : i = 1 := by simpa using hi
        refine YieldsIf.wpOp (S := fun w' => w' = w3.alloc (.cells #[.slice (some ⟨g3, 0, none⟩) n3 c3] 30)) (v := .slice (some ⟨gh, 0, none⟩) hs.length ch) rfl (Or.inl ⟨by rfl, by rintro w' rfl; go_simp⟩) rfl ⟨trivial, ?_⟩
        refine wpAnyH_all (rs := [5]) (by kernel_rfl) (by simp) ?_
        intro i hi
        obtain rfl : i = 5 := by simpa using hi
        refine wpOp_now rfl (by rfl) ?_
        refine wp_append_lies _ _ _ _ (by rfl) (w.heap.size + 1) 30 i0 _ 1 24 Tryz.underlying31 hi0 hz0 hz1 hz2 rfl (by omega) _ hs.length _ (by rfl) (hD3.2.2.1.alloc _) ⟨w3.heap.size, 0, none⟩ 1 1 [.slice (some ⟨g3, 0, none⟩) n3 c3] (by rfl) (by rfl) (World.news_of_block (cs := #[.slice (some ⟨g3, 0, none⟩) n3 c3]) (t := 30) (fr := (0, 0)) (heap_alloc_new w3 _)) (by simp [Value.oneCell']) (by omega) hmax (by omega) (by simp; omega) (w3.heap.size + 1) (by simp) ?_
        intro gg cg w5 hown5 hgr5 hat5 hlt5
        refine ⟨trivial, ?_⟩
        simp only [Act.put, List.setIfInBounds_toArray]
        refine wpAnyH_take (i := 6) (v := .pointer (some ⟨w1.heap.size, 1, none⟩)) rfl (by kernel_rfl) (by kernel_rfl) (by kernel_rfl) (fun _ _ _ h => h) (Or.inl ⟨by rfl, by intro w' _; go_simp⟩) trivial ?_
        refine wpAnyH_all (rs := [7]) (by kernel_rfl) (by simp) ?_
        intro i hi
        obtain rfl : i = 7 := by simpa using hi
        have Bq : Below w3.heap.size w3 (w3.alloc (.cells #[.slice (some ⟨g3, 0, none⟩) n3 c3] 30)) := (by repeat (first | exact bw_refl _ | assumption | apply bw_drewN | apply bw_drew | apply bw_alloc | refine bw_set ?_ (by simp) _))
        have Lp5 := lies_grown (Lp3.alloc _) hgr5 (fun e => by have e' : w1.heap.size = gh := Option.some.inj e; omega)
        have Z5' := lies_grown (Z3.alloc _) hgr5 (fun e => by have e' : w.heap.size = gh := Option.some.inj e; omega)
        obtain ⟨d05, d15, f05, f15⟩ := lies2 Lp5
        refine wpOp_now rfl (by rfl) ?_
        go_simp
        refine wpAnyH_done (by kernel_rfl) ?_ _
        simp only [Exit.then, Exit.inBlock]
        have hne3 : ∀ t : LoopT, t.ok (w.heap.size + 1) w3 → some t.g ≠ Value.ownBlock (.slice (some ⟨gh, 0, none⟩) hs.length ch) := fun t ht e => by obtain ⟨_, _, _, _, _, _, h7⟩ := ht; exact blk_ne_own h7 hD3.2.2.1 (Option.some.inj e)
        have hggn : gg ≠ w1.heap.size := hat5.elim (fun e => by have e' : gh = gg := Option.some.inj e; omega) (fun e => by omega)
        have O5 : Only w1.heap.size w5 (w5.setCell ⟨w1.heap.size, 1, none⟩ (.slice (some ⟨gg, 0, none⟩) (hs.length + 1) cg)) := (Only.refl w1.heap.size w5).set (.inl rfl) _
        have keep5 : ∀ t : LoopT, t.ok (w.heap.size + 1) w3 → t.g ≠ w1.heap.size → t.ok (w.heap.size + 1) (w5.setCell ⟨w1.heap.size, 1, none⟩ (.slice (some ⟨gg, 0, none⟩) (hs.length + 1) cg)) := fun t ht hne => ((ht.below Bq).grown hgr5 (hne3 t ht)).only' O5 hne
        have hr5 := own_only' hown5 O5 (fun e => hggn (Option.some.inj e))
        have hD4 : PlD (w.heap.size + 1) (w5.setCell ⟨w1.heap.size, 1, none⟩ (.slice (some ⟨gg, 0, none⟩) (hs.length + 1) cg)) ⟨g, n, c, l⟩ (.slice (some ⟨gg, 0, none⟩) (hs.length + 1) cg) (hs ++ [(⟨g3, n3, c3, l3⟩ : LoopT)]) := by
          refine ⟨keep5 _ hD3.1 (by show g ≠ _; omega), by simp; omega, by simpa [LoopT.v] using hr5, fun t ht => ?_⟩
          rcases List.mem_append.1 ht with h | h
          · exact keep5 t (hD3.2.2.2 t h) (Nat.ne_of_lt (hgs t h))
          · obtain rfl : t = ⟨g3, n3, c3, l3⟩ := by simpa using h
            exact keep5 _ ⟨h3, by show n3 ≤ 8; omega, hl3, hc3, hm3, by show w.heap.size + 1 ≤ g3; omega, hB3⟩ (by show g3 ≠ _; omega)
        have R4 := ((R3.below Bq).grown hgr5 (fun j e => by have e' : gh = j := Option.some.inj e; omega)).set (p := ⟨w1.heap.size, 1, none⟩) (by show r < w1.heap.size; omega) (.slice (some ⟨gg, 0, none⟩) (hs.length + 1) cg)
        have P4 := ((P3.trans (Only.of_below Bq)).grown hgr5 (fun j e => by have e' : gh = j := Option.some.inj e; omega)).set (p := ⟨w1.heap.size, 1, none⟩) (.inr (by show w.heap.size ≤ w1.heap.size; omega)) (.slice (some ⟨gg, 0, none⟩) (hs.length + 1) cg)
        have L4 := lies_set1 (z := .slice (some ⟨gg, 0, none⟩) (hs.length + 1) cg) Lp5
        have Z4 : Lies w.heap.size #[.slice none 0 0, .slice none 0 0] 33 (w5.setCell ⟨w1.heap.size, 1, none⟩ (.slice (some ⟨gg, 0, none⟩) (hs.length + 1) cg)) := set_oth Z5' (by omega)
        clear hown5 hgr5 hat5 hlt5 keep5 hr5 O5 hne3 hD3 Lp3 Z3 R3 P3 Lp5 Z5' d03 d13 f03 f13 d05 d15 f05 f15 Bq hB3 O3 hX PD ZD LpD hDD
        generalize w5.setCell ⟨w1.heap.size, 1, none⟩ (.slice (some ⟨gg, 0, none⟩) (hs.length + 1) cg) = x4 at *
        clear y0 y1 yf0 yf1 d0 d1 f0 f1
        obtain ⟨d0, d1, f0, f1⟩ := lies2 L4
        obtain ⟨y0, y1, yf0, yf1⟩ := lies2 Z4
        have Z5 := setB2 (u0 := .slice (some ⟨g, 0, none⟩) n c) (u1 := .slice (some ⟨gg, 0, none⟩) (hs.length + 1) cg) Z4
        obtain ⟨v0, v1, _, _⟩ := lies2 Z5
        go_wp2_with fail
        refine bodyPost_ret (v := .agg #[.slice (some ⟨g, 0, none⟩) n c, .slice (some ⟨gg, 0, none⟩) (hs.length + 1) cg]) (by simp [results, Tryz.results50, go_sem, v0, v1]) rfl ?_
        have hD5 := (hD4.only ((Only.refl w.heap.size x4).set (p := ⟨w.heap.size, 0, none⟩) (.inl rfl) (.slice (some ⟨g, 0, none⟩) n c)) (by omega)).only ((Only.refl w.heap.size _).set (p := ⟨w.heap.size, 1, none⟩) (.inl rfl) (.slice (some ⟨gg, 0, none⟩) (hs.length + 1) cg)) (by omega)
        exact ⟨⟨g, n, c, l⟩, _, hs ++ [(⟨g3, n3, c3, l3⟩ : LoopT)], k3, rfl, hD5.mono (by omega), ⟨by simp; try omega, ⟨_, _, _, rfl⟩⟩, by omega, (R4.set (by show r < w.heap.size; omega) _).set (by show r < w.heap.size; omega) _, (P4.set (.inr (by show w.heap.size ≤ w.heap.size; omega)) _).set (.inr (by show w.heap.size ≤ w.heap.size; omega)) _⟩
  · have hok := hD.1
    obtain ⟨o1, o2, o3, o4, o5, o6, o7⟩ := hok
    have o3' : l.length = n := o3
    have o1' : 3 ≤ n := o1
    have hownO : w2.ownsRow (w.heap.size + 1) 35 2 (.slice (some ⟨g, 0, none⟩) n c) n (ptCells l) := own_of_blk o7 o3 o4 o5 o6
    have hm1 : (w2.alloc (.cells #[] 35)).ownsRow w2.heap.size 35 2 (.slice (some ⟨w2.heap.size, 0, none⟩) 0 0) 0 [] := World.ownsRow_made w2 #[] 0 (Nat.le_refl _) (by simp [maxLen]) rfl
    have hnw : ∀ j u, (ptCells l)[j]? = some u → (w2.alloc (.cells #[] 35)).cell? ((⟨g, 0, none⟩ : Addr).add j) = some u := (hownO.alloc _).cells (g := g) rfl
    have hone : ∀ u ∈ ptCells l, u.oneCell' = true := by intro u hu; simp only [ptCells, List.mem_flatMap] at hu; obtain ⟨p, _, hp⟩ := hu; simp at hp; rcases hp with rfl | rfl <;> rfl
    have hpl : (ptCells l).length = n * 2 := by rw [ptCells_len, o3']
    have B1 : Below w2.heap.size w2 (w2.alloc (.cells #[] 35)) := (by repeat (first | exact bw_refl _ | assumption | apply bw_drewN | apply bw_drew | apply bw_alloc | refine bw_set ?_ (by simp) _))
    have LqA := Lp.below B1
    have ZA := Z.below B1
    have z02 : w.heap.size < w2.heap.size := by omega
    have zr2 := R.lt
    go_wp2_with (first
      | (at_builtin; refine wpList_append_own_wide _ rfl _ _ _ rfl w2.heap.size 35 j0 _ 2 16 Tryz.underlying30 hj0 jz0 jz1 jz2 rfl (by omega) _ 0 [] rfl hm1 ⟨g, 0, none⟩ n c (ptCells l) rfl hpl hnw hone (by simp [maxLen]; omega) (by omega) (by simp) ?_; intro v1 x6 hown1 hgr1 hnil1; have zx6 := hgr1.size; have Lq6 := lies_grown LqA hgr1 (fun e => absurd (Option.some.inj e) (Nat.ne_of_lt z2)); have R6 := (R.below B1).grown hgr1 (fun j e => by have e' : w2.heap.size = j := Option.some.inj e; omega); have zw6 : w2.heap.size + 1 ≤ x6.heap.size := by simpa using zx6)
      | (go_at_call 52; refine (l71Pt_any (k1 + 1) a len cap r _ (by omega) R6).mono ?_; rintro e x7 ⟨s, t, k7, rfl, hPB, hk7, R7, O7⟩; have zx7 := O7.size; have Z6 := lies_grown ZA hgr1 (fun e => absurd (Option.some.inj e) (Nat.ne_of_lt z02)); have Lq7 : Lies w1.heap.size #[.slice (some ⟨g, 0, none⟩) n c, .slice (some ⟨gh, 0, none⟩) hs.length ch] 33 x7 := keepO O7 Lq6 (by omega); have hown7 := own_only hown1 O7 (by omega); have Z7 : Lies w.heap.size #[.slice none 0 0, .slice none 0 0] 33 x7 := keepO O7 Z6 (by omega))
      | (at_builtin; refine wpList_append_lies _ rfl _ _ _ rfl w2.heap.size 35 j0 _ 2 16 Tryz.underlying30 hj0 jz0 jz1 jz2 rfl (by omega) _ (0 + n) _ rfl (hown7.alloc _) ⟨x7.heap.size, 0, none⟩ 1 1 [.int .i64 s, .int .i64 t] rfl rfl (World.news_of_block (cs := #[.int .i64 s, .int .i64 t]) (t := 35) (fr := (0, 0)) (heap_alloc_new x7 _)) (by simp [Value.oneCell']) (by omega) (by simp [maxLen]; omega) (by omega) (by simp; omega) (x7.heap.size + 1) (by simp) ?_; intro gg cg x8 hown8 hgr8 hat8 hlt8; have Lq8 := lies_grown (Lq7.alloc _) hgr8 (fun e => by have := (hown7.lt _ e.symm).1; omega); obtain ⟨s0, s1, sf0, sf1⟩ := lies2 Lq8; have Z8 := lies_grown (Z7.alloc _) hgr8 (fun e => by have := (hown7.lt _ e.symm).1; omega); obtain ⟨yy0, yy1, yyf0, yyf1⟩ := lies2 Z8))
    have Z9 : Lies w.heap.size #[.slice none 0 0, .slice none 0 0] 33 (x8.setCell ⟨w1.heap.size, 0, none⟩ (.slice (some ⟨gg, 0, none⟩) (n + 1) cg)) := set_oth Z8 (by omega)
    have Z10 := setB2 (u0 := .slice (some ⟨gg, 0, none⟩) (n + 1) cg) (u1 := .slice (some ⟨gh, 0, none⟩) hs.length ch) Z9
    obtain ⟨v0, v1', _, _⟩ := lies2 Z10
    refine bodyPost_ret (v := .agg #[.slice (some ⟨gg, 0, none⟩) (n + 1) cg, .slice (some ⟨gh, 0, none⟩) hs.length ch]) (by simp [results, Tryz.results50, go_sem, v0, v1']) rfl ?_
    have B2 : Below x7.heap.size x7 (x7.alloc (.cells #[.int .i64 s, .int .i64 t] 35)) := (by repeat (first | exact bw_refl _ | assumption | apply bw_drewN | apply bw_drew | apply bw_alloc | refine bw_set ?_ (by simp) _))
    have n8 : ∀ j : Nat, some j = v1.ownBlock → w2.heap.size ≤ j := fun j e => (hown7.lt j e.symm).1
    have O9 : Only w1.heap.size x8 (x8.setCell ⟨w1.heap.size, 0, none⟩ (.slice (some ⟨gg, 0, none⟩) (n + 1) cg)) := (Only.refl w1.heap.size x8).set (.inl rfl) _
    have keep9 : ∀ t : LoopT, t.ok (w.heap.size + 1) w2 → t.g ≠ w1.heap.size → t.ok (w.heap.size + 1) (x8.setCell ⟨w1.heap.size, 0, none⟩ (.slice (some ⟨gg, 0, none⟩) (n + 1) cg)) := fun t ht hne => by
      have hl : t.g < w2.heap.size := ht.lt
      have hb : w.heap.size + 1 ≤ t.g := ht.2.2.2.2.2.1
      exact ((((ht.below B1).grown hgr1 (fun e => absurd (Option.some.inj e) (Nat.ne_of_lt hl))).only O7 (by omega)).below B2).grown hgr8 (fun e => by have := n8 _ e; omega) |>.only' O9 hne
    have hr9 := own_only' (own_grown (own_below (own_only (own_grown (own_below hD.2.2.1 B1) hgr1 (fun e => by have e' : gh = w2.heap.size := Option.some.inj e; omega)) O7 (by omega)) B2) hgr8 (fun e => by have := n8 gh e; omega)) O9 (fun e => by have e' : gh = w1.heap.size := Option.some.inj e; omega)
    have hggw : w2.heap.size ≤ gg := (hown8.lt gg rfl).1
    have hown9 : x8.ownsRow (w.heap.size + 1) 35 2 (.slice (some ⟨gg, 0, none⟩) (n + 1) cg) (n + 1) (ptCells (l ++ [(s, t)])) := by
      rw [ptCells_snoc]
      have := own_mono hown8 (show w.heap.size + 1 ≤ w2.heap.size by omega)
      simpa using this
    obtain ⟨hb9, hnc9, hcm9, hbg9⟩ := blk_of_own hown9 (by simp [o3'])
    have hD4 : PlD (w.heap.size + 1) (x8.setCell ⟨w1.heap.size, 0, none⟩ (.slice (some ⟨gg, 0, none⟩) (n + 1) cg)) ⟨gg, n + 1, cg, l ++ [(s, t)]⟩ (.slice (some ⟨gh, 0, none⟩) hs.length ch) hs :=
      ⟨LoopT.ok.only' ⟨by show 3 ≤ n + 1; omega, by show n + 1 ≤ 8; omega, by simp [o3'], hnc9, hcm9, by show w.heap.size + 1 ≤ gg; omega, hb9⟩ O9 (by show gg ≠ _; omega), hD.2.1, hr9, fun t ht => keep9 t (hD.2.2.2 t ht) (Nat.ne_of_lt (hgs t ht))⟩
    have R4 := ((R7.below B2).grown hgr8 (fun j e => by have := n8 j e.symm; omega)).set (p := ⟨w1.heap.size, 0, none⟩) (by show r < w1.heap.size; omega) (.slice (some ⟨gg, 0, none⟩) (n + 1) cg)
    have P4 := (((((P.trans (Only.of_below B1)).grown hgr1 (fun j e => by have e' : w2.heap.size = j := Option.some.inj e; omega)).trans O7).trans (Only.of_below B2)).grown hgr8 (fun j e => by have := n8 j e.symm; omega)).set (p := ⟨w1.heap.size, 0, none⟩) (.inr (by show w.heap.size ≤ w1.heap.size; omega)) (.slice (some ⟨gg, 0, none⟩) (n + 1) cg)
    generalize x8.setCell ⟨w1.heap.size, 0, none⟩ (.slice (some ⟨gg, 0, none⟩) (n + 1) cg) = x4 at *
    have hD5 := (hD4.only ((Only.refl w.heap.size x4).set (p := ⟨w.heap.size, 0, none⟩) (.inl rfl) (.slice (some ⟨gg, 0, none⟩) (n + 1) cg)) (by omega)).only ((Only.refl w.heap.size _).set (p := ⟨w.heap.size, 1, none⟩) (.inl rfl) (.slice (some ⟨gh, 0, none⟩) hs.length ch)) (by omega)
    exact ⟨⟨gg, n + 1, cg, l ++ [(s, t)]⟩, _, hs, k7, rfl, hD5.mono (by omega), ⟨by omega, ⟨_, _, _, rfl⟩⟩, by omega, (R4.set (by show r < w.heap.size; omega) _).set (by show r < w.heap.size; omega) _, (P4.set (.inr (by show w.heap.size ≤ w.heap.size; omega)) _).set (.inr (by show w.heap.size ≤ w.heap.size; omega)) _⟩
  · have e0 : (q == 0) = false := by simpa using q0
    have e1 : (q == 1) = false := by simpa using q1
    have e2 : (q == 2) = false := by simpa using q2
    have Z1 := setB2 (u0 := .slice (some ⟨g, 0, none⟩) n c) (u1 := .slice (some ⟨gh, 0, none⟩) hs.length ch) Z
    obtain ⟨v0, v1, _, _⟩ := lies2 Z1
    go_wp2_with fail
    refine bodyPost_ret (v := .agg #[.slice (some ⟨g, 0, none⟩) n c, .slice (some ⟨gh, 0, none⟩) hs.length ch]) (by simp [results, Tryz.results50, go_sem, v0, v1]) rfl ?_
    have hD2 := (hD.only ((Only.refl w.heap.size w2).set (p := ⟨w.heap.size, 0, none⟩) (.inl rfl) (.slice (some ⟨g, 0, none⟩) n c)) (by omega)).only ((Only.refl w.heap.size _).set (p := ⟨w.heap.size, 1, none⟩) (.inl rfl) (.slice (some ⟨gh, 0, none⟩) hs.length ch)) (by omega)
    exact ⟨⟨g, n, c, l⟩, _, hs, k1 + 1, rfl, hD2.mono (by omega), ⟨by omega, hst⟩, by omega, (R.set (by show r < w.heap.size; omega) _).set (by show r < w.heap.size; omega) _, (P.set (.inr (by show w.heap.size ≤ w.heap.size; omega)) _).set (.inr (by show w.heap.size ≤ w.heap.size; omega)) _⟩
end Go.Proofs.YtmdjhoknlplecaaGreatDoor
namespace Go.Proofs.YtmdjhoknlplecaaGreatDoor
open Go.RowKit

theorem boxes1' (w : World) (o : Obj) : ∃ W, W = w.alloc o ∧ Below w.heap.size w W ∧ W.heap[w.heap.size]? = some o := ⟨_, rfl, (by repeat (first | exact bw_refl _ | assumption | apply bw_drewN | apply bw_drew | apply bw_alloc | refine bw_set ?_ (by simp) _)), heap_new _ _⟩
/-- A loop that was drawn: points of our own memory. -/
def Loopy (base : Nat) (w' : World) (v : Value) (l : List P2) (n : Nat) : Prop :=
  ∃ (g c : Nat), v = .slice (some ⟨g, 0, none⟩) n c ∧ 3 ≤ n ∧ n ≤ 7 ∧ l.length = n ∧ n ≤ c ∧ c ≤ maxLen ∧ base ≤ g ∧ PtBlk w' g c l n
theorem Loopy.below {base : Nat} {w w' : World} {v : Value} {l : List P2} {n : Nat} (h : Loopy base w v l n) (J : Below w.heap.size w w') : Loopy base w' v l n := by
  obtain ⟨g, c, e, h1, h2, h3, h4, h5, h6, h7⟩ := h
  exact ⟨g, c, e, h1, h2, h3, h4, h5, h6, h7.below J⟩
theorem PtBlk.pts' {W : World} {g c n : Nat} {l : List P2} (h : PtBlk W g c l n) (hl : l.length = n) : Pts W.heap.size W (some ⟨g, 0, none⟩) n l := by
  have hg := h.lt
  obtain ⟨cur, h, hs, hc⟩ := h
  refine ⟨hl, .inr ⟨g, 0, rfl, hg, fun j hj => ?_⟩⟩
  rw [Nat.zero_add, row_cell h, row_cell h]; exact hc j hj
end Go.Proofs.YtmdjhoknlplecaaGreatDoor
namespace Go.Proofs.YtmdjhoknlplecaaGreatDoor
open Go.RowKit

theorem PlD.set {base b i : Nat} {W : World} {o : LoopT} {hv : Value} {hs : List LoopT} (h : PlD base W o hv hs) (hb : b < base) (v : Value) : PlD base (W.setCell ⟨b, i, none⟩ v) o hv hs :=
  h.only ((Only.refl b W).set (p := ⟨b, i, none⟩) (.inl rfl) v) hb
end Go.Proofs.YtmdjhoknlplecaaGreatDoor
namespace Go.Proofs.YtmdjhoknlplecaaGreatDoor
open Go.RowKit Go.Sort

set_option maxRecDepth 100000 in
set_option maxHeartbeats 4000000 in
theorem l71Tool_any (k : Nat) (a : Option Addr) (len cap r : Nat) (w : World) (hk : k ≤ 900000) (R : Rd w r k a len cap) :
    Calls Tryz.prog 51 #[.pointer (some ⟨r, 0, none⟩)] w fun e w' => ∃ (t : Int) (k' : Nat), e = .returned (.int .i64 t) ∧ (-1 ≤ t ∧ t ≤ 10) ∧ k' ≤ k + 2 ∧ Rd w' r k' a len cap ∧ Only r w w' := by
  have hlt := R.lt
  have P := Only.refl r w
  go_enter Tryz.func51, Tryz.ntmps51
  go_wp2_with fail
  refine (pick_rd 24 k a len cap r _ (by omega) (by omega) R).mono ?_
  clear R
  rintro e w1 ⟨x, rfl, xa, xb, R, O⟩
  replace P := P.trans O
  have z1 := P.size
  clear O
  by_cases hx : x = 0
  · subst hx
    go_wp2_with fail
    refine (pick_rd 4 (k + 1) a len cap r _ (by omega) (by omega) (R.alloc _)).mono ?_
    clear R
    rintro e w2 ⟨u, rfl, ua, ub, R, O⟩
    have B := keepO O (heap_new _ _) (by omega)
    replace P := (P.alloc _).trans O
    clear O
    have hc : u = 0 ∨ u = 1 ∨ u = 2 ∨ u = 3 := by omega
    rcases hc with hc | hc | hc | hc
    · subst hc
      have c0 : w2.cell? ⟨w1.heap.size, 0, none⟩ = some (.int .i64 (0)) := by simp [World.cell?, B]
      go_wp2_with fail
      go_ret
      exact ⟨_, k + 1 + 1, rfl, by omega, by omega, R, P⟩
    · subst hc
      have c0 : w2.cell? ⟨w1.heap.size, 1, none⟩ = some (.int .i64 (-1)) := by simp [World.cell?, B]
      go_wp2_with fail
      go_ret
      exact ⟨_, k + 1 + 1, rfl, by omega, by omega, R, P⟩
    · subst hc
      have c0 : w2.cell? ⟨w1.heap.size, 2, none⟩ = some (.int .i64 (10)) := by simp [World.cell?, B]
      go_wp2_with fail
      go_ret
      exact ⟨_, k + 1 + 1, rfl, by omega, by omega, R, P⟩
    · subst hc
      have c0 : w2.cell? ⟨w1.heap.size, 3, none⟩ = some (.int .i64 (9)) := by simp [World.cell?, B]
      go_wp2_with fail
      go_ret
      exact ⟨_, k + 1 + 1, rfl, by omega, by omega, R, P⟩
  · have hx' : (x == 0) = false := by simpa using hx
    go_wp2_with fail
    refine (pick_rd 10 (k + 1) a len cap r _ (by omega) (by omega) (R.alloc _)).mono ?_
    clear R
    rintro e w2 ⟨u, rfl, ua, ub, R, O⟩
    have B := keepO O (heap_new _ _) (by omega)
    replace P := (P.alloc _).trans O
    clear O
    have hc : u = 0 ∨ u = 1 ∨ u = 2 ∨ u = 3 ∨ u = 4 ∨ u = 5 ∨ u = 6 ∨ u = 7 ∨ u = 8 ∨ u = 9 := by omega
    rcases hc with hc | hc | hc | hc | hc | hc | hc | hc | hc | hc
    · subst hc
      have c0 : w2.cell? ⟨w1.heap.size, 0, none⟩ = some (.int .i64 (1)) := by simp [World.cell?, B]
      go_wp2_with fail
      go_ret
      exact ⟨_, k + 1 + 1, rfl, by omega, by omega, R, P⟩
    · subst hc
      have c0 : w2.cell? ⟨w1.heap.size, 1, none⟩ = some (.int .i64 (1)) := by simp [World.cell?, B]
      go_wp2_with fail
      go_ret
      exact ⟨_, k + 1 + 1, rfl, by omega, by omega, R, P⟩
    · subst hc
      have c0 : w2.cell? ⟨w1.heap.size, 2, none⟩ = some (.int .i64 (1)) := by simp [World.cell?, B]
      go_wp2_with fail
      go_ret
      exact ⟨_, k + 1 + 1, rfl, by omega, by omega, R, P⟩
    · subst hc
      have c0 : w2.cell? ⟨w1.heap.size, 3, none⟩ = some (.int .i64 (2)) := by simp [World.cell?, B]
      go_wp2_with fail
      go_ret
      exact ⟨_, k + 1 + 1, rfl, by omega, by omega, R, P⟩
    · subst hc
      have c0 : w2.cell? ⟨w1.heap.size, 4, none⟩ = some (.int .i64 (2)) := by simp [World.cell?, B]
      go_wp2_with fail
      go_ret
      exact ⟨_, k + 1 + 1, rfl, by omega, by omega, R, P⟩
    · subst hc
      have c0 : w2.cell? ⟨w1.heap.size, 5, none⟩ = some (.int .i64 (3)) := by simp [World.cell?, B]
      go_wp2_with fail
      go_ret
      exact ⟨_, k + 1 + 1, rfl, by omega, by omega, R, P⟩
    · subst hc
      have c0 : w2.cell? ⟨w1.heap.size, 6, none⟩ = some (.int .i64 (4)) := by simp [World.cell?, B]
      go_wp2_with fail
      go_ret
      exact ⟨_, k + 1 + 1, rfl, by omega, by omega, R, P⟩
    · subst hc
      have c0 : w2.cell? ⟨w1.heap.size, 7, none⟩ = some (.int .i64 (4)) := by simp [World.cell?, B]
      go_wp2_with fail
      go_ret
      exact ⟨_, k + 1 + 1, rfl, by omega, by omega, R, P⟩
    · subst hc
      have c0 : w2.cell? ⟨w1.heap.size, 8, none⟩ = some (.int .i64 (5)) := by simp [World.cell?, B]
      go_wp2_with fail
      go_ret
      exact ⟨_, k + 1 + 1, rfl, by omega, by omega, R, P⟩
    · subst hc
      have c0 : w2.cell? ⟨w1.heap.size, 9, none⟩ = some (.int .i64 (9)) := by simp [World.cell?, B]
      go_wp2_with fail
      go_ret
      exact ⟨_, k + 1 + 1, rfl, by omega, by omega, R, P⟩
end Go.Proofs.YtmdjhoknlplecaaGreatDoor
namespace Go.Proofs.YtmdjhoknlplecaaGreatDoor
open Go.RowKit

/-- What such an iterator promises, if no round says 'no more'. -/
def SeqO {α : Type} (F : Fence) (n : Nat) (P : Program) (g : Nat) (lb : Array Value) (encs : α → Array Value) (Kp : World → World → Prop) (all : List α) (w : World) : Prop :=
  ∀ (l : Nat) (J : List α → World → Prop) (W : World), Below w.heap.size w W → OwnFrom W.heap.size J →
    (∀ pre x W1, J pre W1 → pre.length < all.length → YieldAt F (n - 1) P l (encs x) W1 fun e W' => e = .returned (.bool true) ∧ J (pre ++ [x]) W' ∧ Kp W1 W' ∧ KeepsFrom W.heap.size W1 W') →
    J [] W → CallsIn F n P g (#[.func (.yield l) #[] #[]] ++ lb) W fun e W' => (∃ v, e = .returned v) ∧ J all W'
theorem keeps_far {B B' : Nat} {W W' : World} (h : KeepsFrom B W W') (hB : B ≤ B') : KeepsFrom B' W W' := ⟨h.size, fun k o hk => h.same k o (Nat.le_trans hB hk)⟩
theorem keepsFrom_put {B l : Nat} (W : World) (o : Obj) (hl : l < B) : KeepsFrom B W (W.putObj l o) := ⟨by simp, fun k _ hk h _ => (World.putObj_heap_other (by omega)).trans h⟩
/-- How a round ends: it goes on. -/
def onO {α : Type} (B : Nat) (Kp : World → World → Prop) (I : List α → World → Prop) (xs : List α) (W : World) : Exit → Act → World → Prop
  | .normal, _, W' => KeepsFrom B W W' ∧ Kp W W' ∧ I xs W'
  | _, _, _ => False
set_option maxHeartbeats 1000000 in
theorem wpIn_rangeO {F : Fence} {n : Nat} {P : Program} {α : Type} {g : Operand} {ps : Array Tmp} {assign body : Code} {Q : Exit → Act → World → Prop} {a : Act} {w : World}
    (hro : F.round = none) (h1 : 1 ≤ n) {gf : Nat} {lb : Array Value} (hg : a.eval g = .func (.func gf) #[] lb) (hFg : F.fn gf) (eg : ∀ args w, (callFunc gf args).run P w = .ok (.enter gf args) w)
    {encs : α → Array Value} {Kp : World → World → Prop} {all : List α} {w0 : World} (hseq : SeqO F (n - 1) P gf lb encs Kp all w0)
    (hKt : ∀ {A B C : World}, Kp A B → Kp B C → Kp A C) (hKb : ∀ (W : World) (l : Nat) (o o' : Obj), w.heap.size ≤ l → W.heap[l]? = some o → o.isCells = false → o.isWalk = false → Kp W (W.putObj l o'))
    (hb0 : Below w0.heap.size w0 w) (hps : ∀ x, (encs x).size = ps.size)
    (I : List α → World → Prop) (hI : OwnFrom w.heap.size I) (h0 : I [] w) (Ax : α → Act → World → Prop) (hAx : ∀ x a', OwnFrom w.heap.size (fun (_ : Unit) W => Ax x a' W))
    (hassign : ∀ (l : Nat) (pre : List α) (x : α) (W : World) (K : Act → World → Prop), I pre W → (∀ a' W', KeepsFrom w.heap.size W W' → Kp W W' → I pre W' → Ax x a' W' → K a' W') →
      assign.wpIn (F.inRound l) (n - 1 - 1) P (Exit.then K (fun _ _ _ => False)) { tmps := (ps.zip (encs x)).foldl (fun t (p, v) => t.setIfInBounds p v) a.tmps, defers := [] } W)
    (hbody : ∀ (l : Nat) (pre : List α) (x : α) (a' : Act) (W : World), w.heap.size ≤ l → I pre W → Ax x a' W → pre.length < all.length → body.wpIn (F.inRound l) (n - 1 - 1) P (onO w.heap.size Kp I (pre ++ [x]) W) a' W)
    (hdone : ∀ (D : Nat) (W : World), w.heap.size ≤ D → I all W → W.heap[D]? = some (.deferred (some [])) → Q .normal { a with defers := { target := .collected D, args := #[] } :: a.defers } W) :
    (Code.rangeFunc g ps assign body).wpIn F n P Q a w := by
  refine wpIn_rangeFunc ?_
  intro fn hfn
  rw [hro]
  obtain ⟨mk, hmk⟩ : ∃ mk : LoopState → Option Code → Loop, mk = fun st pe => { state := st, pending := pe, fn, tmps := a.tmps, params := ps, assign, body, defers := w.heap.size } := ⟨_, rfl⟩
  -- the two blocks of the loop's own books
  have book : ∀ W : World, ((w.alloc (.deferred (some []))).alloc (.loop (mk .ready none))) = W → W.heap[w.heap.size + 1]? = some (.loop (mk .ready none)) ∧ W.heap[w.heap.size]? = some (.deferred (some [])) ∧ I [] W ∧ Below w0.heap.size w0 W ∧ W.heap.size = w.heap.size + 2 := by
    rintro W rfl
    refine ⟨?_, ?_, hI.alloc _ (hI.alloc _ h0), ?_, by simp⟩
    · have := World.alloc_heap_new (w.alloc (.deferred (some []))) (.loop (mk .ready none)); rwa [World.size_alloc] at this
    · exact (Below.heap_alloc _ _ _ (by simp)).trans (World.alloc_heap_new w _)
    · exact hb0.trans ((((Below.refl _ w).alloc (Nat.le_refl _) _).alloc (by simp) _).mono hb0.size)
  obtain ⟨V, hV⟩ : ∃ V, (w.alloc (.deferred (some []))).alloc (.loop (mk .ready none)) = V := ⟨_, rfl⟩
  obtain ⟨hL, hK, hIV, hbV, hsz⟩ := book V hV
  refine ⟨w.heap.size + 1, [{ target := .collected w.heap.size, args := #[] }], V, { target := .fn (.func gf) lb, args := #[.func (.yield (w.heap.size + 1)) #[] #[]] }, V, gf, #[.func (.yield (w.heap.size + 1)) #[] #[]] ++ lb, V, ?_, ?_, ?_, ?_, fun _ => h1, ?_⟩
  · rw [← hV, hmk]; exact run_enterLoop_outer _ _ _ _ _
  · simp only [resolve, hg]
    simp [go_sem]
  · intro f' hf'
    simp [Target.leads] at hf'
    subst hf'
    exact hFg
  · simp [invoke, go_sem, eg]
  have keepB : ∀ {A B : World} {row : Option Nat} (k : Nat) (o : Obj), k < V.heap.size → A.grownBy B row → (∀ r, row = some r → V.heap.size ≤ r ∧ ∃ o : Obj, A.heap[r]? = some o ∧ o.isCells = false) → A.heap[k]? = some o → B.heap[k]? = some o := fun {A B row} k o hk hg' hr h =>
    (hg'.block k (Array.getElem?_eq_some_iff.1 h).1 (fun e => by have := (hr k e.symm).1; omega)).trans h
  refine (hseq (w.heap.size + 1) (fun pre W => I pre W ∧ W.heap[w.heap.size + 1]? = some (.loop (mk .ready none)) ∧ W.heap[w.heap.size]? = some (.deferred (some []))) V hbV
    (fun s A B row hs hg' hr => ⟨hI s A B row hs.1 hg' (fun r e => ⟨by have := (hr r e).1; omega, (hr r e).2⟩), keepB _ _ (by omega) hg' hr hs.2.1, keepB _ _ (by omega) hg' hr hs.2.2⟩) ?_ ⟨hIV, hL, hK⟩).mono ?_
  · rintro pre x W ⟨hi, hl, hk⟩ hlen
    have hy := run_yield (P := P) (args := encs x) hl (by rw [hmk]; exact hps x)
    rw [hmk] at hy
    refine ⟨fn, _, assign, body, hy, roundIn_of_wpIn hfn (hassign _ pre x W _ hi ?_)⟩
    clear hy
    intro a' U hkf hkp hiU hax
    have hlU := hkf.same _ _ (by omega) hl rfl
    have hkU := hkf.same _ _ (Nat.le_refl _) hk rfl
    have hltU : w.heap.size + 1 < U.heap.size := (Array.getElem?_eq_some_iff.1 hlU).1
    refine ⟨_, run_beginRound hlU (by rw [hmk]), ?_⟩
    obtain ⟨U2, hU2⟩ : ∃ U2, U.putObj (w.heap.size + 1) (.loop { mk .ready none with state := .busy }) = U2 := ⟨_, rfl⟩
    have hlU2 : U2.heap[w.heap.size + 1]? = some (.loop { mk .ready none with state := .busy }) := by rw [← hU2]; exact World.putObj_heap_same hltU
    have hkU2 : U2.heap[w.heap.size]? = some (.deferred (some [])) := by rw [← hU2]; exact (World.putObj_heap_other (by omega)).trans hkU
    have hpU2 : Kp U U2 := by rw [← hU2]; exact hKb _ _ _ _ (by omega) hlU rfl rfl
    have hiU2 : I pre U2 := by rw [← hU2]; exact hI.putObj _ hiU (by omega) hlU rfl
    have haU2 : Ax x a' U2 := by rw [← hU2]; exact (hAx x a').putObj (s := ()) _ hax (by omega) hlU rfl
    rw [hU2]
    refine wpIn_mono (hbody _ pre x a' _ (by omega) hiU2 haU2 hlen) ?_
    rintro e a3 W3 hp
    cases e with
    | normal =>
      obtain ⟨hk3, hp3, hi3⟩ := hp
      have hl3 := hk3.same _ _ (by omega) hlU2 rfl
      have hd3 := hk3.same _ _ (Nat.le_refl _) hkU2 rfl
      have hend := run_endRound (P := P) none hl3
      rw [hmk] at hend hl3 ⊢
      refine ⟨_, _, hend, rfl, ⟨hI.putObj _ hi3 (by omega) hl3 rfl, World.putObj_heap_same (Array.getElem?_eq_some_iff.1 hl3).1, (World.putObj_heap_other (by omega)).trans hd3⟩, ?_⟩
      refine ⟨hKt hkp (hKt hpU2 (hKt hp3 (hKb _ _ _ _ (by omega) hl3 rfl rfl))), ?_⟩
      have hU : KeepsFrom V.heap.size U U2 := by rw [← hU2]; exact keepsFrom_put _ _ (by omega)
      exact ((keeps_far hkf (by omega)).trans hU).trans ((keeps_far hk3 (by omega)).trans (keepsFrom_put _ _ (by omega)))
    | ret => exact hp.elim
    | exit id => exact hp.elim
    | goto t => exact hp.elim
    | panic ch => exact hp.elim
    | outgrown => exact hp.elim
  · rintro e W2 ⟨⟨v, rfl⟩, hi, hl, hk⟩
    exact ⟨none, _, by have := run_endLoop (P := P) hl (by rw [hmk]; simp); rw [hmk] at this; exact this, hdone _ _ (Nat.le_refl _) (hI.putObj _ hi (by omega) hl rfl) ((World.putObj_heap_other (by omega)).trans hk)⟩
end Go.Proofs.YtmdjhoknlplecaaGreatDoor
namespace Go.Proofs.YtmdjhoknlplecaaGreatDoor
open Go.RowKit Go.Sort

/-- A block of our own of so many cells. -/
def Own (W : World) (g n : Nat) (t : TypeId) : Prop := ∃ cur : Array Value, W.heap[g]? = some (.cells cur t (0, 0)) ∧ cur.size = n
theorem Own.lt {W : World} {g n : Nat} {t : TypeId} (h : Own W g n t) : g < W.heap.size := by obtain ⟨cur, h, _⟩ := h; exact (Array.getElem?_eq_some_iff.1 h).1
theorem Own.room {W : World} {g n i : Nat} {t : TypeId} (h : Own W g n t) (hi : i < n) : (∃ u, W.cell? ⟨g, i, none⟩ = some u) ∧ W.frozen? ⟨g, i, none⟩ = false := by
  obtain ⟨cur, h, hs⟩ := h
  exact ⟨⟨cur[i]'(by omega), by rw [row_cell h]; exact Array.getElem?_eq_getElem _⟩, row_frozen h⟩
theorem Own.set {W : World} {g n i : Nat} {t : TypeId} (h : Own W g n t) (v : Value) : Own (W.setCell ⟨g, i, none⟩ v) g n t := by
  obtain ⟨cur, h, hs⟩ := h
  exact ⟨_, setCell_row h v, by simpa using hs⟩
theorem Own.below {W W' : World} {g n : Nat} {t : TypeId} (h : Own W g n t) (J : Below W.heap.size W W') : Own W' g n t := by
  have hl := h.lt
  obtain ⟨cur, h, hs⟩ := h
  exact ⟨cur, (J.block g hl).trans h, hs⟩
theorem Own.only {W W' : World} {g n r : Nat} {t : TypeId} (h : Own W g n t) (O : Only r W W') (hne : g ≠ r) : Own W' g n t := by
  have hl := h.lt
  obtain ⟨cur, h, hs⟩ := h
  exact ⟨cur, (O.block g hne hl).trans h, hs⟩
theorem own_set_cell {W : World} {g n i j : Nat} {t : TypeId} (h : Own W g n t) (hi : i < n) (v : Value) : (W.setCell ⟨g, i, none⟩ v).cell? ⟨g, j, none⟩ = if i = j then some v else W.cell? ⟨g, j, none⟩ := by
  obtain ⟨cur, h, hs⟩ := h
  rw [row_cell (setCell_row h v), row_cell h, Array.getElem?_setIfInBounds]
  by_cases e : i = j
  · rw [if_pos e, if_pos e, if_pos (by omega)]
  · rw [if_neg e, if_neg e]
/-- The cells of a block, from the first on, are k, k + 1, and so on. -/
def Num (W : World) (g n : Nat) (k : Int) : Prop := ∀ j, j < n → W.cell? ⟨g, j, none⟩ = some (.int .i64 (k + j))
theorem Num.below {W W' : World} {g n : Nat} {k : Int} (h : Num W g n k) (hg : g < W.heap.size) (J : Below W.heap.size W W') : Num W' g n k := fun j hj => (J.cell (p := ⟨g, j, none⟩) hg).trans (h j hj)
theorem Num.snoc {W : World} {g n m : Nat} {t : TypeId} {k u : Int} (h : Own W g n t) (hN : Num W g m k) (hm : m < n) (hu : u = k + m) : Num (W.setCell ⟨g, m, none⟩ (.int .i64 u)) g (m + 1) k := by
  intro j hj
  rw [own_set_cell h hm]
  by_cases e : m = j
  · rw [if_pos e, hu, e]
  · rw [if_neg e]; exact hN j (by omega)
end Go.Proofs.YtmdjhoknlplecaaGreatDoor
namespace Go.Proofs.YtmdjhoknlplecaaGreatDoor
open Go.RowKit Go.Sort

def sAt (ss : List (P2 × P2)) (j : Nat) : P2 × P2 := ss[j]?.getD ((0, 0), (0, 0))
/-- A row of segments, its cells. -/
def SRow (W : World) (g : Nat) (ss : List (P2 × P2)) : Prop := ∀ j, j < ss.length → W.cell? ⟨g, j * 4, none⟩ = some (.int .i64 (sAt ss j).1.1) ∧ W.cell? ⟨g, j * 4 + 1, none⟩ = some (.int .i64 (sAt ss j).1.2) ∧ W.cell? ⟨g, j * 4 + 2, none⟩ = some (.int .i64 (sAt ss j).2.1) ∧ W.cell? ⟨g, j * 4 + 3, none⟩ = some (.int .i64 (sAt ss j).2.2)
theorem SRow.below {W W' : World} {g : Nat} {ss : List (P2 × P2)} (h : SRow W g ss) (k : Below W.heap.size W W') (hg : g < W.heap.size) : SRow W' g ss := fun j hj => by
  obtain ⟨c0, c1, c2, c3⟩ := h j hj
  exact ⟨(k.cell (p := ⟨g, j * 4, none⟩) hg).trans c0, (k.cell (p := ⟨g, j * 4 + 1, none⟩) hg).trans c1, (k.cell (p := ⟨g, j * 4 + 2, none⟩) hg).trans c2, (k.cell (p := ⟨g, j * 4 + 3, none⟩) hg).trans c3⟩
theorem SRow.only {W W' : World} {g r : Nat} {ss : List (P2 × P2)} (h : SRow W g ss) (O : Only r W W') (hne : g ≠ r) : SRow W' g ss := fun j hj => by
  obtain ⟨c0, c1, c2, c3⟩ := h j hj
  exact ⟨cellO O c0 hne, cellO O c1 hne, cellO O c2 hne, cellO O c3 hne⟩
def cellsS (ss : List (P2 × P2)) : List Value := ss.flatMap fun s => seg4 s.1 s.2
theorem cellsS_append (a b : List (P2 × P2)) : cellsS (a ++ b) = cellsS a ++ cellsS b := by simp [cellsS]
theorem cellsS_len (ss : List (P2 × P2)) : (cellsS ss).length = ss.length * 4 := by
  induction ss with
  | nil => rfl
  | cons s ss ih => have : cellsS (s :: ss) = seg4 s.1 s.2 ++ cellsS ss := by simp [cellsS]
                    rw [this, List.length_append, ih]; simp [seg4]; omega
theorem cellsS_at (ss : List (P2 × P2)) (j : Nat) (hj : j < ss.length) :
    (cellsS ss)[j * 4]? = some (.int .i64 (sAt ss j).1.1) ∧ (cellsS ss)[j * 4 + 1]? = some (.int .i64 (sAt ss j).1.2) ∧ (cellsS ss)[j * 4 + 2]? = some (.int .i64 (sAt ss j).2.1) ∧ (cellsS ss)[j * 4 + 3]? = some (.int .i64 (sAt ss j).2.2) := by
  induction ss generalizing j with
  | nil => simp at hj
  | cons s ss ih =>
    have e : cellsS (s :: ss) = .int .i64 s.1.1 :: .int .i64 s.1.2 :: .int .i64 s.2.1 :: .int .i64 s.2.2 :: cellsS ss := by simp [cellsS, seg4]
    cases j with
    | zero => rw [e]; exact ⟨rfl, rfl, rfl, rfl⟩
    | succ j =>
      have := ih j (by simpa using hj)
      have e1 : (j + 1) * 4 = j * 4 + 1 + 1 + 1 + 1 := by omega
      have e2 : (j + 1) * 4 + 1 = j * 4 + 1 + 1 + 1 + 1 + 1 := by omega
      have e3 : (j + 1) * 4 + 2 = j * 4 + 2 + 1 + 1 + 1 + 1 := by omega
      have e4 : (j + 1) * 4 + 3 = j * 4 + 3 + 1 + 1 + 1 + 1 := by omega
      rw [e, e2, e3, e4, e1]
      simpa [sAt] using this
/-- The edges of a loop. -/
def segsL (pts : List P2) : List (P2 × P2) := (List.range pts.length).map fun k => (ptAt pts k, ptAt pts (nxt pts k))
theorem segsL_len (pts : List P2) : (segsL pts).length = pts.length := by simp [segsL]
theorem segsL_at (pts : List P2) (k : Nat) (hk : k < pts.length) : sAt (segsL pts) k = (ptAt pts k, ptAt pts (nxt pts k)) := by simp [segsL, sAt, hk]
theorem segsL_cells (pts : List P2) : cellsS (segsL pts) = segCells pts pts.length := by
  have : ∀ n, cellsS ((List.range n).map fun k => (ptAt pts k, ptAt pts (nxt pts k))) = segCells pts n := by
    intro n
    induction n with
    | zero => rfl
    | succ n ih => rw [List.range_succ, List.map_append, cellsS_append, ih]; simp [segCells, cellsS]
  exact this _
/-- A slice of segments of our own memory, or none. -/
def AnsS (base top : Nat) (W : World) (v : Value) (ss : List (P2 × P2)) : Prop :=
  (ss = [] ∧ ∃ a c, v = .slice a 0 c) ∨ ∃ g c, v = .slice (some ⟨g, 0, none⟩) ss.length c ∧ base ≤ g ∧ g < top ∧ ss.length ≤ c ∧ Own W g (c * 4) 62 ∧ SRow W g ss
theorem AnsS.below {base top : Nat} {W W' : World} {v : Value} {ss : List (P2 × P2)} (h : AnsS base top W v ss) (J : Below W.heap.size W W') : AnsS base top W' v ss := by
  rcases h with h | ⟨g, c, e, hb, ht, hc, hO, hS⟩
  · exact .inl h
  · exact .inr ⟨g, c, e, hb, ht, hc, hO.below J, hS.below J hO.lt⟩
theorem AnsS.only {base top r : Nat} {W W' : World} {v : Value} {ss : List (P2 × P2)} (h : AnsS base top W v ss) (O : Only r W W') (hr : r < base ∨ top ≤ r) : AnsS base top W' v ss := by
  rcases h with h | ⟨g, c, e, hb, ht, hc, hO, hS⟩
  · exact .inl h
  · have hne : g ≠ r := by omega
    exact .inr ⟨g, c, e, hb, ht, hc, hO.only O hne, hS.only O hne⟩
theorem AnsS.of_owns {base n : Nat} {W : World} {v : Value} {ss : List (P2 × P2)} (h : W.ownsRow base 62 4 v n (cellsS ss)) (hn : ss.length = n) : AnsS base W.heap.size W v ss := by
  subst hn
  have h' := h
  rcases h.2 with ⟨h1, h2⟩ | ⟨g, cap, cur, e, hb, hg, h1, h2, hs, ht⟩
  · refine .inl ⟨List.eq_nil_of_length_eq_zero h2, none, 0, ?_⟩
    rw [h1]
  · refine .inr ⟨g, cap, e, hb, (Array.getElem?_eq_some_iff.1 hg).1, h1, ⟨cur, hg, hs⟩, fun j hj => ?_⟩
    subst e
    have hc := h'.cells (g := g) rfl
    have add : ∀ k : Nat, (⟨g, 0, none⟩ : Addr).add k = ⟨g, k, none⟩ := fun k => by unfold Addr.add; split <;> simp_all
    obtain ⟨c0, c1, c2, c3⟩ := cellsS_at ss j hj
    have d0 := hc _ _ c0
    have d1 := hc _ _ c1
    have d2 := hc _ _ c2
    have d3 := hc _ _ c3
    rw [add] at d0 d1 d2 d3
    exact ⟨d0, d1, d2, d3⟩
end Go.Proofs.YtmdjhoknlplecaaGreatDoor
namespace Go.Proofs.YtmdjhoknlplecaaGreatDoor
open Go.RowKit Go.Shelf
attribute [local go_sem] Oper.semAt_some

/-- A segment, as it is handed on. -/
def segE (s : P2 × P2) : Array Value := #[.agg #[.int .i64 s.1.1, .int .i64 s.1.2, .int .i64 s.2.1, .int .i64 s.2.2]]
/-- What a round keeps: all that lay below n₀, and every box of points or of a yield. -/
def KT (n₀ : Nat) (W W' : World) : Prop := Below n₀ W W' ∧ ∀ (k : Nat) (cs : Array Value) (t : TypeId), (t = 30 ∨ t = 115) → W.heap[k]? = some (Obj.cells cs t (0, 0)) → W'.heap[k]? = some (Obj.cells cs t (0, 0))
theorem KT.refl (n₀ : Nat) (W : World) : KT n₀ W W := ⟨Below.refl _ _, fun _ _ _ _ h => h⟩
theorem KT.trans {n₀ : Nat} {A B C : World} (h : KT n₀ A B) (k : KT n₀ B C) : KT n₀ A C := ⟨h.1.trans k.1, fun i cs t ht h0 => k.2 i cs t ht (h.2 i cs t ht h0)⟩
theorem KT_t {n₀ : Nat} : ∀ {A B C : World}, KT n₀ A B → KT n₀ B C → KT n₀ A C := fun h k => h.trans k
theorem KT_b {n₀ : Nat} {w : World} (hn : n₀ ≤ w.heap.size) : ∀ (W : World) (l : Nat) (o o' : Obj), w.heap.size ≤ l → W.heap[l]? = some o → o.isCells = false → o.isWalk = false → KT n₀ W (W.putObj l o') :=
  fun W l o o' hl ho h1 h2 => ⟨belowK_b hn W l o o' hl ho h1 h2, fun k cs t _ h => by
    refine (World.putObj_heap_other (fun e => ?_)).trans h
    subst e; rw [h] at ho; cases ho; cases h1⟩
theorem KT.of_below {n₀ : Nat} {W W' : World} (h : Below W.heap.size W W') (hn : n₀ ≤ W.heap.size) : KT n₀ W W' := ⟨h.mono hn, fun k _ _ _ h0 => (h.block k (Array.getElem?_eq_some_iff.1 h0).1).trans h0⟩
theorem KT.lies {n₀ b : Nat} {cs : Array Value} {t : TypeId} {W W' : World} (h : KT n₀ W W') (ht : t = 30 ∨ t = 115) (hL : Lies b cs t W) : Lies b cs t W' := h.2 b cs t ht hL
/-- A list of loops, all below n₀. -/
def RingN (n₀ : Nat) (W : World) : Option Addr → List RingT → Prop
  | p, [] => p = none
  | p, x :: xs => ∃ (b : Nat) (q : Option Addr) (t : TypeId), p = some ⟨b, 0, none⟩ ∧ b < n₀ ∧ Lies b #[.slice x.a x.len x.cap, .pointer q] t W ∧ x.len ≤ 1048576 ∧ Pts n₀ W x.a x.len x.pts ∧ RingN n₀ W q xs
theorem RingN.keep {n₀ : Nat} {W V : World} (h : Below n₀ W V) : ∀ {p : Option Addr} {xs : List RingT}, RingN n₀ W p xs → RingN n₀ V p xs
  | _, [], hl => hl
  | _, _ :: _, ⟨b, q, t, hp, hb, hL, hl, hP, hr⟩ => ⟨b, q, t, hp, hb, (h.block b hb).trans hL, hl, hP.below h, RingN.keep h hr⟩
theorem RingL.ringN {n₀ : Nat} {W : World} (hn : W.heap.size ≤ n₀) : ∀ {p : Option Addr} {xs : List RingT}, RingL n₀ W p xs → RingN n₀ W p xs
  | _, [], hl => hl
  | _, _ :: _, ⟨b, q, t, hp, hL, hl, hP, hr⟩ => ⟨b, q, t, hp, Nat.lt_of_lt_of_le hL.lt hn, hL, hl, hP, RingL.ringN hn hr⟩
theorem RingN.ringL {n₀ : Nat} {W : World} : ∀ {p : Option Addr} {xs : List RingT}, RingN n₀ W p xs → RingL n₀ W p xs
  | _, [], hl => hl
  | _, _ :: _, ⟨b, q, t, hp, _, hL, hl, hP, hr⟩ => ⟨b, q, t, hp, hL, hl, hP, RingN.ringL hr⟩
/-- A function that has ended some loops leaves: no call was deferred in any round. -/
theorem leaves_marks {fn : Func} {n : Nat} {P : Program} {tmps : Array Value} {R : Ending → World → Prop} (G : World → Prop) (B : Nat) (hG : ∀ V D o, B ≤ D → V.heap[D]? = some (.deferred (some [])) → G V → G (V.putObj D o)) (hres : ∀ V, G V → ∃ v, (results fn tmps).run P V = .ok v V ∧ R (.returned v) V) :
    ∀ (ds : List Nat) (V : World), ds.Nodup → (∀ D ∈ ds, B ≤ D ∧ V.heap[D]? = some (.deferred (some []))) → G V → LeavesInM Fence.wide n P fn tmps R (ds.map fun D => { target := .collected D, args := #[] }) .returning V
  | [], V, _, _, hg => hres V hg
  | D :: ds, V, hnd, hd, hg => by
    obtain ⟨hB, hD⟩ := hd D (by simp)
    refine ⟨by simp, .inl ⟨D, _, rfl, run_takeDeferred hD, ?_⟩⟩
    rw [List.nodup_cons] at hnd
    refine leaves_marks G B hG hres ds _ hnd.2 (fun E hE => ?_) (hG V D _ hB hD hg)
    obtain ⟨h1, h2⟩ := hd E (by simp [hE])
    exact ⟨h1, (World.putObj_heap_other (fun e => hnd.1 (by rw [← e]; exact hE))).trans h2⟩
theorem roundIn_any {m m' l : Nat} {P : Program} {f : FuncId} {tmps : Array Value} {assign body : Code} {w : World} {R : Ending → World → Prop} (h : RoundIn Fence.wide m P l f tmps assign body w R) (l' : Nat) : RoundIn (Fence.wide.inRound l') m' P l f tmps assign body w R :=
  ⟨h.1, fun c cs _ => h.2 c cs (room_wide _)⟩
theorem segsL_fin (pts : List P2) : ((List.finRange pts.length).map fun k => (ptAt pts k.1, ptAt pts (nxt pts k.1))) = segsL pts := fin_map' pts.length (fun k => (ptAt pts k, ptAt pts (nxt pts k)))
def edgR (rs : List RingT) : List (P2 × P2) := rs.flatMap fun x => segsL x.pts
set_option maxRecDepth 100000 in
set_option maxHeartbeats 4000000 in
theorem ringE_seq (n : Nat) (hn : 6 ≤ n) (B n₀ : Nat) (q : Option Addr) (rs : List RingT) (w : World) (hB : w.cell? ⟨B, 0, none⟩ = some (.pointer q)) (hn₀ : n₀ ≤ w.heap.size) (hR : RingN n₀ w q rs) :
    SeqO Fence.wide n Tryz.prog 102 #[.pointer (some ⟨B, 0, none⟩)] segE (KT n₀) (edgR rs) w := by
  intro l J W hW hJ hY h0
  have zBw : B < w.heap.size := World.block_lt_of_cell? _ _ hB
  have hBW := (hW.cell (p := ⟨B, 0, none⟩) zBw).trans hB
  have hRW := hR.keep (hW.mono hn₀)
  have zW := hW.size
  have zB : B < W.heap.size := by omega
  have h1 : 1 ≤ n := by omega
  refine callsIn_of_wp_marks Tryz.func102 rfl trivial ?_ rfl
  simp only [Tryz.ntmps102, List.size_toArray, List.length_cons, List.length_nil, Nat.reduceAdd, Nat.reduceSub, Array.replicate_succ, Array.replicate_zero, List.push_toArray, List.append_toArray, List.nil_append, List.cons_append]
  gi_wp2
  refine wpIn_loop (fun a V => ∃ (dn rest : List RingT) (p : Option Addr) (ds : List Nat) (u7 u8 u9 u10 u11 u12 u13 u14 u15 u16 u17 : Value), rs = dn ++ rest ∧ RingN n₀ V p rest ∧ J (edgR dn) V ∧ KT n₀ W V ∧ Lies W.heap.size #[.func (.yield l) #[] #[]] 115 V ∧ (∀ D ∈ ds, W.heap.size ≤ D ∧ V.heap[D]? = some (.deferred (some []))) ∧ ds.Nodup ∧
      a = { tmps := #[.func (.yield l) #[] #[], .pointer (some ⟨B, 0, none⟩), .pointer (some ⟨W.heap.size, 0, none⟩), .pointer p, undef, undef, .pointer q, u7, u8, u9, u10, u11, u12, u13, u14, u15, u16, u17, undef, undef, undef, undef, undef, undef], defers := ds.map fun D => { target := .collected D, args := #[] } })
    (fun a V => ringsLeft V (a.tmps.getD 3 undef)) ?start ?round
  case start =>
    refine ⟨[], rs, q, [], undef, undef, undef, undef, undef, undef, undef, undef, undef, undef, undef, rfl, hRW.keep ((Below.refl _ W).alloc (by omega) _), ?_, KT.of_below ((Below.refl _ W).alloc (Nat.le_refl _) _) (by omega), Lies.new W _ _, fun D hD => by simp at hD, by simp, rfl⟩
    exact hJ.alloc _ h0
  case round =>
    rintro a V ⟨dn, rest, p, ds, u7, u8, u9, u10, u11, u12, u13, u14, u15, u16, u17, hrs, hRV, hJV, hkt, LY, hds, hnd, rfl⟩
    cases rest with
    | nil =>
      obtain rfl : p = none := hRV
      gi_wp2
      rw [List.append_nil] at hrs
      subst hrs
      exact leaves_marks (fun V => J (edgR rs) V) W.heap.size (fun V D o hBD hD hj => hJ.putObj _ hj hBD hD rfl) (fun V hg => ⟨_, results_none rfl _ _ _, ⟨_, rfl⟩, hg⟩) ds V hnd hds hJV
    | cons y ys =>
      obtain ⟨b, q', t, rfl, hb, hL, hyl, hP, hr⟩ := hRV
      obtain ⟨c0, c1, _, _⟩ := lies2 hL
      have zV := hkt.1.size
      have hdsV : ∀ D ∈ ds, D < V.heap.size := fun D hD => (Array.getElem?_eq_some_iff.1 (hds D hD).2).1
      gi_wp2_with (refine ⟨trivial, ?_⟩; gi_at_call 103; refine (edges_in (n - 1) _ _ _ _).mono ?_; rintro e w' ⟨rfl, rfl⟩)
      have BL : Lies V.heap.size #[.slice y.a y.len y.cap] 30 (V.alloc (.cells #[.slice y.a y.len y.cap] 30)) := Lies.new V _ _
      have hBV : Below V.heap.size V (V.alloc (.cells #[.slice y.a y.len y.cap] 30)) := (by repeat (first | exact bw_refl _ | assumption | apply bw_drewN | apply bw_drew | apply bw_alloc | refine bw_set ?_ (by simp) _))
      have hJ2 : J (edgR dn) (V.alloc (.cells #[.slice y.a y.len y.cap] 30)) := hJ.alloc _ hJV
      have LY2 := LY.below hBV
      have hds2 : ∀ D ∈ ds, W.heap.size ≤ D ∧ (V.alloc (.cells #[.slice y.a y.len y.cap] 30)).heap[D]? = some (.deferred (some [])) := fun D hD => ⟨(hds D hD).1, (hBV.block D (hdsV D hD)).trans (hds D hD).2⟩
      have hP2 : Pts n₀ (V.alloc (.cells #[.slice y.a y.len y.cap] 30)) y.a y.len y.pts := hP.below (hBV.mono (by omega))
      have hK2 : KT n₀ V (V.alloc (.cells #[.slice y.a y.len y.cap] 30)) := KT.of_below hBV (by omega)
      have hsz : (V.alloc (.cells #[.slice y.a y.len y.cap] 30)).heap.size = V.heap.size + 1 := by simp
      obtain ⟨V2, hV2⟩ : ∃ V2, V.alloc (.cells #[.slice y.a y.len y.cap] 30) = V2 := ⟨_, rfl⟩
      rw [hV2] at BL hBV hJ2 LY2 hds2 hP2 hK2 hsz ⊢
      clear hV2
      have hst := edges_stops (n - 1) (by omega) V.heap.size n₀ y.a y.len y.cap y.pts V2 (by omega) (by omega) hyl BL.c1 hP2
      refine wpIn_rangeFunc_ownH rfl h1 (gf := 119) (lb := #[.pointer (some ⟨V.heap.size, 0, none⟩)]) rfl trivial (enters_of Tryz.func119 (by kernel_rfl) rfl)
        hst KB_t (KB_b (by omega) (by omega)) (Below.refl _ _) (fun _ => rfl)
        (fun pre V3 => (J (edgR dn ++ pre.map fun k => (ptAt y.pts k.1, ptAt y.pts (nxt y.pts k.1))) V3 ∧ Lies W.heap.size #[.func (.yield l) #[] #[]] 115 V3 ∧ Lies V.heap.size #[.slice y.a y.len y.cap] 30 V3 ∧ ∀ D ∈ ds, W.heap.size ≤ D ∧ V3.heap[D]? = some (.deferred (some []))) ∧ KT n₀ V V3)
        (fun _ _ _ => False)
        (fun s X Y row hs hg hr => ⟨⟨hJ _ X Y row hs.1.1 hg (fun r e => ⟨by have := (hr r e).1; omega, (hr r e).2⟩), lies_own (β := Unit) _ _ _ () X Y row hs.1.2.1 hg (fun r e => (hr r e).2), lies_own (β := Unit) _ _ _ () X Y row hs.1.2.2.1 hg (fun r e => (hr r e).2), fun D hD => ⟨(hs.1.2.2.2 D hD).1, (hg.block D (Array.getElem?_eq_some_iff.1 (hs.1.2.2.2 D hD).2).1 (fun e => by have := (hr D e.symm).1; have := hdsV D hD; omega)).trans (hs.1.2.2.2 D hD).2⟩⟩, ⟨ownFrom_below (β := Unit) (n₀ := n₀) (B := V2.heap.size) (w₀ := V) (by omega) (by omega) () X Y row hs.2.1 hg hr, fun k cs t ht h => (hg.block k (Array.getElem?_eq_some_iff.1 (hs.2.2 k cs t ht h)).1 (fun e => by obtain ⟨_, o, ho, hc⟩ := hr k e.symm; rw [hs.2.2 k cs t ht h] at ho; cases ho; cases hc)).trans (hs.2.2 k cs t ht h)⟩⟩)
        (fun c => ownFrom_pure _ _)
        ⟨⟨by simpa using hJ2, LY2, BL, hds2⟩, hK2⟩
        (fun x a' V3 => ∃ Bx, Lies Bx #[.int .i64 (ptAt y.pts x.1).1, .int .i64 (ptAt y.pts x.1).2, .int .i64 (ptAt y.pts (nxt y.pts x.1)).1, .int .i64 (ptAt y.pts (nxt y.pts x.1)).2] 62 V3 ∧ a' = { tmps := #[.func (.yield l) #[] #[], .pointer (some ⟨B, 0, none⟩), .pointer (some ⟨W.heap.size, 0, none⟩), .pointer (some ⟨b, 0, none⟩), undef, .pointer (some ⟨Bx, 0, none⟩), .pointer q, .pointer (some ⟨b, 0, none⟩), .bool true, u9, u10, u11, u12, .pointer (some ⟨b, 0, none⟩), .pointer (some ⟨b, 0, none⟩), .pointer (some ⟨b, 0, none⟩), .slice y.a y.len y.cap, .func (.func 119) #[] #[.pointer (some ⟨V.heap.size, 0, none⟩)], .int .i64 (x.1 : Int), .agg #[.int .i64 (ptAt y.pts x.1).1, .int .i64 (ptAt y.pts x.1).2, .int .i64 (ptAt y.pts (nxt y.pts x.1)).1, .int .i64 (ptAt y.pts (nxt y.pts x.1)).2], undef, undef, undef, undef], defers := [] })
        (fun x a' _ X Y row hs hg hr => by obtain ⟨Bx, e2, e3⟩ := hs; exact ⟨Bx, lies_own (β := Unit) Bx _ _ () X Y row e2 hg (fun r e => (hr r e).2), e3⟩)
        ?assign ?body ?done ?stop
      case assign =>
        rintro l' pre x V3 K ⟨⟨hj, L1, L2, hd⟩, hk3⟩ hK
        unfold encE
        have zV3 := hk3.1.size
        have hB3 : Below V3.heap.size V3 (V3.alloc (.cells #[.int .i64 (ptAt y.pts x.1).1, .int .i64 (ptAt y.pts x.1).2, .int .i64 (ptAt y.pts (nxt y.pts x.1)).1, .int .i64 (ptAt y.pts (nxt y.pts x.1)).2] 62)) := (by repeat (first | exact bw_refl _ | assumption | apply bw_drewN | apply bw_drew | apply bw_alloc | refine bw_set ?_ (by simp) _))
        gi_wp2
        exact hK _ _ ((KeepsOthers.alloc _ _).from _) (KB.of_below hB3 (by omega) L2.lt) ⟨⟨hJ.alloc _ hj, L1.below hB3, L2.below hB3, fun D hD => ⟨(hd D hD).1, (hB3.block D (Array.getElem?_eq_some_iff.1 (hd D hD).2).1).trans (hd D hD).2⟩⟩, hk3.trans (KT.of_below hB3 (by omega))⟩ ⟨V3.heap.size, Lies.new V3 _ _, rfl⟩
      case body =>
        rintro l' pre x a' V3 hl2 ⟨r, hr'⟩ ⟨⟨hj, L1, L2, hd⟩, hk3⟩ ⟨Bx, bX, rfl⟩ hlt
        obtain ⟨k, hkk⟩ := x
        dsimp only at *
        have cY := L1.c1
        obtain ⟨cx0, cx1, cx2, cx3⟩ := bX.c4
        have hlen : (edgR dn ++ pre.map fun k => (ptAt y.pts k.1, ptAt y.pts (nxt y.pts k.1))).length < (edgR rs).length := by
          rw [hrs]; simp only [edgR, List.flatMap_append, List.flatMap_cons, List.length_append, List.length_map, segsL_len]; omega
        obtain ⟨fn, tmps, assign, body, hy, hRd⟩ := hY _ (ptAt y.pts k, ptAt y.pts (nxt y.pts k)) V3 hj hlen
        dsimp only [segE] at hy
        have hR2 := fun m' => roundIn_any (m' := m') hRd l'
        clear hRd
        gi_wp2_with (refine ⟨fun _ => by omega, ?_⟩; refine (hR2 _).mono ?_; rintro e V4 ⟨rfl, hj4, hk4, hkf4⟩)
        have L2' := hk4.lies (.inl rfl) L2
        refine ⟨keeps_far hkf4 (by omega), ⟨hk4.1, L2'.trans L2.symm⟩, ⟨?_, hk4.lies (.inr rfl) L1, L2', fun D hD => ⟨(hd D hD).1, hkf4.same D _ (hd D hD).1 (hd D hD).2 rfl⟩⟩, hk3.trans hk4⟩
        rw [List.map_append, ← List.append_assoc]; exact hj4
      case done =>
        rintro D zs V3 hD rfl ⟨⟨hj, L1, L2, hd⟩, hk3⟩ hKD
        have hj' : J (edgR (dn ++ [y])) V3 := by
          rw [segsL_fin] at hj; simpa [edgR] using hj
        clear hj
        obtain ⟨c0', c1', _, _⟩ := lies2 (show Lies b #[.slice y.a y.len y.cap, .pointer q'] t V3 from (hk3.1.block b hb).trans hL)
        gi_wp2
        have hRn := hr.keep hk3.1
        refine ⟨⟨dn ++ [y], ys, q', D :: ds, _, _, _, _, _, _, _, _, _, _, _, by simp [hrs], hRn, hj', hkt.trans hk3, L1, ?_, ?_, rfl⟩, ?_⟩
        · intro E hE
          rcases List.mem_cons.1 hE with rfl | hE
          · exact ⟨by omega, hKD⟩
          · exact hd E hE
        · rw [List.nodup_cons]
          exact ⟨fun h => by have := hdsV D h; omega, hnd⟩
        · show ringsLeft V3 (.pointer q') < ringsLeft V (.pointer (some ⟨b, 0, none⟩))
          rw [ringsLeft_eq hRn.ringL, ringsLeft_eq (xs := y :: ys) ⟨b, q', t, rfl, hL, hyl, hP, hr.ringL⟩]; simp
      case stop =>
        rintro D c pre V3 hD hpre h hK
        exact h.elim
set_option maxHeartbeats 1000000 in
theorem ringEdges_in (n : Nat) (q : Option Addr) (w : World) :
    CallsIn Fence.wide n Tryz.prog 66 #[.pointer q] w fun e w' => e = .returned (.func (.func 102) #[] #[.pointer (some ⟨w.heap.size, 0, none⟩)]) ∧ w' = w.alloc (.cells #[.pointer q] 110) := by
  refine callsIn_of_wp Tryz.func66 rfl trivial ?_ rfl
  simp only [Tryz.ntmps66, List.size_toArray, List.length_cons, List.length_nil, Nat.reduceAdd, Nat.reduceSub, Array.replicate_succ, Array.replicate_zero, List.push_toArray, List.append_toArray, List.nil_append, List.cons_append]
  gi_wp2
  go_ret
  exact ⟨rfl, rfl⟩
end Go.Proofs.YtmdjhoknlplecaaGreatDoor
namespace Go.Proofs.YtmdjhoknlplecaaGreatDoor
open Go.RowKit Go.Sort

/-- The edges that are told of a plate. -/
def plE (o : List P2) (hs : List (List P2)) : List (P2 × P2) := if plV o hs then segsL o ++ hs.flatMap segsL else []
theorem flat_len (hs : List (List P2)) (h : ∀ x ∈ hs, x.length ≤ 8) : (hs.flatMap segsL).length ≤ 8 * hs.length := by
  induction hs with
  | nil => simp
  | cons x xs ih =>
    have h1 := h x (by simp)
    have h2 := ih (fun y hy => h y (by simp [hy]))
    rw [List.flatMap_cons, List.length_append, segsL_len, List.length_cons]; omega
theorem plE_len (o : List P2) (hs : List (List P2)) : (plE o hs).length ≤ 24 := by
  unfold plE
  cases hv : plV o hs
  · simp
  · have L := (plV_iff o hs).1 hv
    have h0 := (okV_pos L.out).2
    have h1 := plV_len hv
    have h2 := flat_len hs (fun x hx => (okV_pos (L.ok x hx)).2)
    rw [if_pos rfl, List.length_append, segsL_len]; omega
theorem edgR_eq (x : RingT) (xs : List RingT) (hs : List (List P2)) (h : xs.map RingT.pts = hs) : edgR (x :: xs) = segsL x.pts ++ hs.flatMap segsL := by
  rw [← h]; simp [edgR, List.flatMap_map]
theorem ansS_mono {base base' top : Nat} {W : World} {v : Value} {ss : List (P2 × P2)} (h : AnsS base top W v ss) (hb : base' ≤ base) : AnsS base' top W v ss := by
  rcases h with h | ⟨g, c, e, h1, r⟩
  · exact .inl h
  · exact .inr ⟨g, c, e, by omega, r⟩
end Go.Proofs.YtmdjhoknlplecaaGreatDoor
namespace Go.Proofs.YtmdjhoknlplecaaGreatDoor
open Go.RowKit Go.Sort

theorem segsL_mem (l : List P2) (s : P2 × P2) : s ∈ segsL l ↔ ∃ i, i < l.length ∧ s = (ptAt l i, ptAt l (nxt l i)) := by
  unfold segsL; simp only [List.mem_map, List.mem_range]
  exact ⟨fun ⟨i, h, e⟩ => ⟨i, h, e.symm⟩, fun ⟨i, h, e⟩ => ⟨i, h, e.symm⟩⟩
theorem sAt_mem {ss : List (P2 × P2)} {j : Nat} (h : j < ss.length) : sAt ss j ∈ ss := by unfold sAt; rw [List.getElem?_eq_getElem h, Option.getD_some]; exact List.getElem_mem _
theorem plE_ok {o : List P2} {hs : List (List P2)} (hv : plV o hs = true) {s : P2 × P2} (h : s ∈ plE o hs) : sgP s.1 s.2 = true := by
  have L := (plV_iff o hs).1 hv
  unfold plE at h
  rw [hv, if_pos rfl, List.mem_append, List.mem_flatMap] at h
  rcases h with h | ⟨t, ht, h⟩
  · obtain ⟨i, hi, rfl⟩ := (segsL_mem _ _).1 h; exact okV_seg' L.out hi
  · obtain ⟨i, hi, rfl⟩ := (segsL_mem _ _).1 h; exact okV_seg' (L.ok t ht) hi
theorem plE_on {o : List P2} {hs : List (List P2)} (hv : plV o hs = true) (p : P2) : (∃ j, j < (plE o hs).length ∧ hasP (sAt (plE o hs) j).1 (sAt (plE o hs) j).2 p = true) ↔ (onL o p = true ∨ ∃ h ∈ hs, onL h p = true) := by
  have key : (∃ j, j < (plE o hs).length ∧ hasP (sAt (plE o hs) j).1 (sAt (plE o hs) j).2 p = true) ↔ ∃ s ∈ plE o hs, hasP s.1 s.2 p = true := by
    constructor
    · rintro ⟨j, hj, h⟩; exact ⟨_, sAt_mem hj, h⟩
    · rintro ⟨s, hs', h⟩
      obtain ⟨j, hj, rfl⟩ := List.getElem_of_mem hs'
      exact ⟨j, hj, by unfold sAt; rw [List.getElem?_eq_getElem hj, Option.getD_some]; exact h⟩
  rw [key]
  unfold plE
  rw [hv, if_pos rfl]
  constructor
  · rintro ⟨s, h, e⟩
    rw [List.mem_append, List.mem_flatMap] at h
    rcases h with h | ⟨t, ht, h⟩
    · obtain ⟨i, hi, rfl⟩ := (segsL_mem _ _).1 h; exact .inl ((onL_iff _ _).2 ⟨i, hi, e⟩)
    · obtain ⟨i, hi, rfl⟩ := (segsL_mem _ _).1 h; exact .inr ⟨t, ht, (onL_iff _ _).2 ⟨i, hi, e⟩⟩
  · rintro (h | ⟨t, ht, h⟩)
    · obtain ⟨i, hi, e⟩ := (onL_iff _ _).1 h; exact ⟨_, List.mem_append.2 (.inl ((segsL_mem _ _).2 ⟨i, hi, rfl⟩)), e⟩
    · obtain ⟨i, hi, e⟩ := (onL_iff _ _).1 h; exact ⟨_, List.mem_append.2 (.inr (List.mem_flatMap.2 ⟨t, ht, (segsL_mem _ _).2 ⟨i, hi, rfl⟩⟩)), e⟩
end Go.Proofs.YtmdjhoknlplecaaGreatDoor
namespace Go.Proofs.YtmdjhoknlplecaaGreatDoor
open Go.RowKit


set_option maxHeartbeats 400000 in
theorem gcd_impl_nat (k l : Nat) (w : World) (hk : k ≤ 1000000) (hl : l ≤ 1000000) :
    Calls Tryz.prog 92 #[.int .i64 k, .int .i64 l] w fun e w' => e = .returned (.int .i64 (Nat.gcd k l : Nat)) ∧ ∃ n, w' = w.drewN n := by
  go_enter Tryz.func92, Tryz.ntmps92
  go_wp2
  go_loopw [0, 1] (fun a b wr => ∃ x y n : Nat, x ≤ 1000000 ∧ y ≤ 1000000 ∧ a = .int .i64 x ∧ b = .int .i64 y ∧ Hid (Nat.gcd x y = Nat.gcd k l) ∧ wr = w.drewN n) (fun _ b _ => (intOf b).toNat)
  case atStart => exact ⟨k, l, 0, hk, hl, rfl, rfl, rfl, rfl⟩
  case round =>
    obtain ⟨x, y, n, hx, hy, rfl, rfl, hg, rfl⟩ := hrel
    by_cases h0 : y = 0
    · have H0 : Hid (y = 0) := h0
      have hz : ((y : Int) != 0) = false := by simp [h0]
      clear h0
      go_wp2
      go_ret
      have h0 := H0.out
      have hG := hg.out
      subst h0
      rw [Nat.gcd_zero_right] at hG
      exact ⟨ret_int (by rw [hG]), n, rfl⟩
    · have h1 : (1 : Int) ≤ (y : Int) := by omega
      have hz : ((y : Int) != 0) = true := by simp; omega
      have HG : Hid (Nat.gcd y (x % y) = Nat.gcd k l) := by rw [gcd_step]; exact hg
      have hm : x % y < y := Nat.mod_lt _ (by omega)
      clear h0 hg
      go_wp2
      go_quiet (fail)
      go_wp2
      exact ⟨⟨y, x % y, n + nq, hy, by omega, rfl, by go_num, HG, World.drewN_drewN _ _ _⟩, by simp [intOf]; omega⟩
theorem gcd_impl (a b : Int) (w : World) (ha : 0 ≤ a) (hb : 0 ≤ b) (hk : a ≤ 1000000) (hl : b ≤ 1000000) :
    Calls Tryz.prog 92 #[.int .i64 a, .int .i64 b] w fun e w' => e = .returned (.int .i64 (G a b)) ∧ ∃ n, w' = w.drewN n := by
  obtain ⟨k, rfl⟩ := Int.eq_ofNat_of_zero_le ha
  obtain ⟨l, rfl⟩ := Int.eq_ofNat_of_zero_le hb
  rw [G_nat]
  exact gcd_impl_nat k l w (by omega) (by omega)

end Go.Proofs.YtmdjhoknlplecaaGreatDoor
namespace Go.Proofs.YtmdjhoknlplecaaGreatDoor
open Go.RowKit Go.Extern.Stop Go.Stop Go.Extern

theorem isTypeOf (v : Value) (w : World) : (Extern.ReflectliteType.typeOf #[.iface 168 v]).run Tryz.prog w = .ok (.iface 154 (.agg #[.pointer (some ⟨1, 168, none⟩)])) w := by kernel_rfl
/-- What the model lays for (rtype).Comparable, under a name. -/
def cmpF : Array Value → Sem Value := Extern.ReflectliteType.method fun t => do Extern.Rtype.noPackHeld "Comparable" t; pure (.bool (← typeInfo t).comparable)
theorem isComparable (w : World) : (cmpF #[.agg #[.pointer (some ⟨1, 168, none⟩)]]).run Tryz.prog w = .ok (.bool true) w := by kernel_rfl
theorem isMethodComparable (v : Value) (w : World) : (Go.method 306 154 v "Comparable").run Tryz.prog w = .ok (148, v) w := by kernel_rfl
theorem isComp : (Tryz.prog.info? 168).map (·.comparable) = some true := by kernel_rfl
theorem isSize : (Tryz.prog.info? 194).map (·.size) = some 1 := by kernel_rfl

set_option maxRecDepth 100000 in
/-- errors.Is(x, x), x a pointer to an errors.errorString. -/
theorem is_same (a : Addr) (w : World) :
    Calls Tryz.prog 58 #[.iface 168 (.pointer (some a)), .iface 168 (.pointer (some a))] w fun e w' => e = .returned (.bool true) ∧ w' = w := by
  obtain ⟨i, hi, hcmp⟩ := Option.map_eq_some_iff.1 isComp
  obtain ⟨j, hj, hjs⟩ := Option.map_eq_some_iff.1 isSize
  have h8 := @run_callFunc_extern Tryz.prog 93 _ Extern.ReflectliteType.typeOf Tryz.func93 (by kernel_rfl) (by kernel_rfl) (by kernel_rfl) (by kernel_rfl)
  have h32 := @run_callFunc_extern Tryz.prog 148 _ cmpF Tryz.func148 (by kernel_rfl) (by kernel_rfl) (by kernel_rfl) (by kernel_rfl)
  have tT := isTypeOf
  have cT := isComparable
  have mR := isMethodComparable
  have heq := run_eql_iface_ptr_same (P := Tryz.prog) w a Tryz.underlying93 Tryz.underlying168 hi hcmp hj
  go_enter Tryz.func58, Tryz.ntmps58
  go_wp2
  refine wp_loop_rounds 1 ?_
  rw [rounds_succ]
  go_wp2
  go_ret
  exact ⟨rfl, rfl⟩

set_option maxRecDepth 100000 in
/-- errors.Is(nil, x). -/
theorem is_nil (b : Addr) (w : World) :
    Calls Tryz.prog 58 #[.nilIface, .iface 168 (.pointer (some b))] w fun e w' => e = .returned (.bool false) ∧ w' = w := by
  have hn := run_eql_iface_nil_left (P := Tryz.prog) w 168 (.pointer (some b)) Tryz.underlying93
  go_enter Tryz.func58, Tryz.ntmps58
  go_wp2
  go_ret
  exact ⟨rfl, rfl⟩
end Go.Proofs.YtmdjhoknlplecaaGreatDoor
namespace Go.Proofs.YtmdjhoknlplecaaGreatDoor
open Go.RowKit

/-- The sentinel's variable holds the pointer a. -/
def Sent (a : Addr) (w : World) : Prop := w.cell? ⟨0, 0, none⟩ = some (.iface 168 (.pointer (some a)))
theorem Sent.lt {a : Addr} {w : World} (h : Sent a w) : 0 < w.heap.size := by
  rcases Nat.lt_or_ge 0 w.heap.size with h' | h'
  · exact h'
  · unfold Sent at h; simp [World.cell?, Array.getElem?_eq_none h'] at h
theorem Sent.below {a : Addr} {w w' : World} (h : Sent a w) (hb : Below w.heap.size w w') : Sent a w' := by
  have hl := h.lt
  unfold Sent at *; rw [hb.cell (p := ⟨0, 0, none⟩) hl]; exact h



theorem divide_bad (n d : Int) (a : Addr) (w : World) (hs : Sent a w) (h : inB n d = false) :
    Calls Tryz.prog 57 #[.int .i64 n, .int .i64 d] w fun e w' => e = .returned (.tuple #[.nilIface, .iface 168 (.pointer (some a))]) ∧ ∃ m, w' = w.drewN m := by
  rw [inB_not] at h
  unfold Sent at hs
  have hc : n < 0 ∨ (0 ≤ n ∧ 99999 < n) ∨ (0 ≤ n ∧ n ≤ 99999 ∧ d < 1) ∨ (0 ≤ n ∧ n ≤ 99999 ∧ 1 ≤ d ∧ 99999 < d) := by omega
  clear h
  rcases hc with h1 | ⟨h1, h2⟩ | ⟨h1, h2, h3⟩ | ⟨h1, h2, h3, h4⟩
  all_goals
    go_enter Tryz.func57, Tryz.ntmps57
    go_wp2
    go_quiet (fail)
    go_wp2
    go_ret2
    exact ⟨rfl, _, rfl⟩

theorem divide_ok (n d : Int) (w : World) (h : inB n d = true) :
    Calls Tryz.prog 57 #[.int .i64 n, .int .i64 d] w fun e w' => e = .returned (.tuple #[.iface 133 (.agg #[.int .i64 (n / G n d), .int .i64 (d / G n d)]), .nilIface]) ∧ ∃ m, w' = w.drewN m := by
  rw [inB_iff] at h
  obtain ⟨h1, h2, h3, h4⟩ := h
  have hg := G_pos n d h3
  have hg2 := G_le n d h3
  have hz : (G n d == 0) = false := by simp; omega
  go_enter Tryz.func57, Tryz.ntmps57
  go_wp2_with (go_at_call 92; refine (gcd_impl _ _ _ h1 (by omega) (by omega) (by omega)).mono ?_; rintro e w' ⟨rfl, m, rfl⟩)
  go_quiet (fail)
  go_wp2
  go_ret2
  exact ⟨rfl, _, World.drewN_drewN _ _ _⟩
end Go.Proofs.YtmdjhoknlplecaaGreatDoor
namespace Go.Proofs.YtmdjhoknlplecaaGreatDoor
open Go.RowKit

theorem meth_below (v : Value) (w : World) : (Go.method 306 133 v "loop.example/mortiser/impl.below").run Tryz.prog w = .ok (144, v) w := by kernel_rfl
theorem meth_above (v : Value) (w : World) : (Go.method 306 133 v "loop.example/mortiser/impl.above").run Tryz.prog w = .ok (143, v) w := by kernel_rfl

theorem below_any (n d : Int) (w : World) :
    Calls Tryz.prog 144 #[.agg #[.int .i64 n, .int .i64 d]] w fun e w' => e = .returned (.int .i64 d) ∧ w' = w.alloc (.cells #[.int .i64 n, .int .i64 d] 133) := by
  go_enter Tryz.func144, Tryz.ntmps144
  go_wp2
  go_ret
  exact ⟨rfl, rfl⟩
theorem above_any (n d : Int) (w : World) :
    Calls Tryz.prog 143 #[.agg #[.int .i64 n, .int .i64 d]] w fun e w' => e = .returned (.int .i64 n) ∧ w' = w.alloc (.cells #[.int .i64 n, .int .i64 d] 133) := by
  go_enter Tryz.func143, Tryz.ntmps143
  go_wp2
  go_ret
  exact ⟨rfl, rfl⟩

theorem ratio_out (n d : Int) (w : World) (a : Addr) (hs : Sent a w) (h : inB n d = false) :
    Calls Tryz.prog 61 #[.agg #[.int .i64 n, .int .i64 d]] w fun e w' => e = .returned (.tuple #[.nilIface, .iface 168 (.pointer (some a))]) ∧ Below w.heap.size w w' := by
  go_enter Tryz.func61, Tryz.ntmps61
  go_wp2_with (go_at_call 57; refine (divide_bad _ _ a _ ?_ h).mono ?_; exact hs.below ((Below.refl _ _).alloc (Nat.le_refl _) _); rintro e w' ⟨rfl, m, rfl⟩)
  go_ret2
  exact ⟨rfl, bw_drewN (bw_alloc (bw_refl _) _) _⟩

theorem ratio_yes (n d : Int) (w : World) (h : inB n d = true) (hg : G n d = 1) :
    Calls Tryz.prog 61 #[.agg #[.int .i64 n, .int .i64 d]] w fun e w' => e = .returned (.tuple #[.iface 133 (.agg #[.int .i64 n, .int .i64 d]), .nilIface]) ∧ Below w.heap.size w w' := by
  have mB := meth_below
  have HG : Hid (G n d = 1) := hg
  have e1 : Hid (n / G n d = n) := by rw [hg]; exact Int.ediv_one n
  have e2 : Hid (d / G n d = d) := by rw [hg]; exact Int.ediv_one d
  have hne : (d != d) = false := by simp
  clear hg
  go_enter Tryz.func61, Tryz.ntmps61
  go_wp2_with (go_at_call 57; refine (divide_ok _ _ _ h).mono ?_; rintro e w' ⟨rfl, m, rfl⟩; rw [e1.out, e2.out])
  go_region_with (go_at_call 144; refine (below_any _ _ _).mono ?_; rintro e w' ⟨rfl, rfl⟩)
  all_goals go_wp2
  all_goals go_ret2
  all_goals exact ⟨rfl, by repeat (first | exact bw_refl _ | apply bw_drewN | apply bw_drew | apply bw_alloc)⟩

theorem ratio_no (n d : Int) (a : Addr) (w : World) (hs : Sent a w) (h : inB n d = true) (hg : G n d ≠ 1) :
    Calls Tryz.prog 61 #[.agg #[.int .i64 n, .int .i64 d]] w fun e w' => e = .returned (.tuple #[.nilIface, .iface 168 (.pointer (some a))]) ∧ Below w.heap.size w w' := by
  have mB := meth_below
  have hlt := hs.lt
  have h' := (inB_iff n d).1 h
  have hgp := G_pos n d h'.2.2.1
  have hne : (d / G n d != d) = true := by
    have := mt (div_self_iff d (G n d) h'.2.2.1 hgp).1 hg
    simpa using this
  unfold Sent at hs
  clear hg h' hgp
  go_enter Tryz.func61, Tryz.ntmps61
  go_wp2_with (go_at_call 57; refine (divide_ok _ _ _ h).mono ?_; rintro e w' ⟨rfl, m, rfl⟩)
  go_region_with (go_at_call 144; refine (below_any _ _ _).mono ?_; rintro e w' ⟨rfl, rfl⟩)
  all_goals go_wp2
  all_goals go_quiet (fail)
  all_goals go_wp2
  all_goals go_ret2
  all_goals exact ⟨rfl, by repeat (first | exact bw_refl _ | apply bw_drewN | apply bw_drew | apply bw_alloc)⟩

/-- An ok fraction comes back as it is. -/
theorem ratio_ok (n d : Int) (w : World) (h : okB n d = true) :
    Calls Tryz.prog 61 #[.agg #[.int .i64 n, .int .i64 d]] w fun e w' => e = .returned (.tuple #[.iface 133 (.agg #[.int .i64 n, .int .i64 d]), .nilIface]) ∧ Below w.heap.size w w' := by
  rw [okB_iff] at h
  exact ratio_yes n d w ((inB_iff n d).2 ⟨h.1, h.2.1, h.2.2.1, h.2.2.2.1⟩) h.2.2.2.2
/-- Of any other one there is the error. -/
theorem ratio_bad (n d : Int) (a : Addr) (w : World) (hs : Sent a w) (h : okB n d = false) :
    Calls Tryz.prog 61 #[.agg #[.int .i64 n, .int .i64 d]] w fun e w' => e = .returned (.tuple #[.nilIface, .iface 168 (.pointer (some a))]) ∧ Below w.heap.size w w' := by
  cases hi : inB n d
  · exact ratio_out n d w a hs hi
  · refine ratio_no n d a w hs hi fun hg => ?_
    rw [inB_iff] at hi
    rw [okB_not] at h
    exact h ⟨hi.1, hi.2.1, hi.2.2.1, hi.2.2.2, hg⟩
end Go.Proofs.YtmdjhoknlplecaaGreatDoor
namespace Go.Proofs.YtmdjhoknlplecaaGreatDoor
open Go.RowKit


theorem fracOf_bad (n d : Int) (a : Addr) (w : World) (hs : Sent a w) (h : inB n d = false) :
    Calls Tryz.prog 22 #[.int .i64 n, .int .i64 d] w fun e w' => e = .returned (.tuple #[.agg #[.int .i64 0, .int .i64 0], .bool false]) ∧ Below w.heap.size w w' := by
  have b0 : Below w.heap.size w (w.alloc (.cells #[.int .i64 0, .int .i64 0] 47)) := bw_alloc (bw_refl _) _
  have hlt := hs.lt
  have hc := hs
  unfold Sent at hc
  go_enter Tryz.func22, Tryz.ntmps22
  go_wp2_with (first
    | (go_at_call 57; refine (divide_bad _ _ a _ ?_ h).mono ?_; exact hs.below b0; rintro e w' ⟨rfl, m, rfl⟩)
    | (go_at_call 58; refine (is_same _ _).mono ?_; rintro e w' ⟨rfl, rfl⟩))
  exact bodyPost_ret (v := .tuple #[.agg #[.int .i64 0, .int .i64 0], .bool false]) (by simp [results, Tryz.results22, go_sem]) rfl ⟨rfl, by repeat (first | exact bw_refl _ | apply bw_drewN | apply bw_drew | apply bw_alloc | refine bw_set ?_ (by simp) _)⟩

theorem fracOf_ok (n d : Int) (a : Addr) (w : World) (hs : Sent a w) (h : inB n d = true) :
    Calls Tryz.prog 22 #[.int .i64 n, .int .i64 d] w fun e w' => e = .returned (.tuple #[.agg #[.int .i64 (n / G n d), .int .i64 (d / G n d)], .bool true]) ∧ Below w.heap.size w w' := by
  have mB := meth_below
  have mA := meth_above
  have b0 : Below w.heap.size w (w.alloc (.cells #[.int .i64 0, .int .i64 0] 47)) := bw_alloc (bw_refl _) _
  have hlt := hs.lt
  have hc := hs
  unfold Sent at hc
  go_enter Tryz.func22, Tryz.ntmps22
  go_wp2_with (first
    | (go_at_call 57; refine (divide_ok _ _ _ h).mono ?_; rintro e w' ⟨rfl, m, rfl⟩)
    | (go_at_call 58; refine (is_nil _ _).mono ?_; rintro e w' ⟨rfl, rfl⟩)
    | (go_at_call 143; refine (above_any _ _ _).mono ?_; rintro e w' ⟨rfl, rfl⟩)
    | (go_at_call 144; refine (below_any _ _ _).mono ?_; rintro e w' ⟨rfl, rfl⟩))
  exact bodyPost_ret (v := .tuple #[.agg #[.int .i64 (n / G n d), .int .i64 (d / G n d)], .bool true]) (by simp [results, Tryz.results22, go_sem]) rfl ⟨rfl, by repeat (first | exact bw_refl _ | apply bw_drewN | apply bw_drew | apply bw_alloc | refine bw_set ?_ (by simp) _)⟩

theorem mul_bd (x y : Int) (h1 : 0 ≤ x) (h2 : x ≤ 99999) (h3 : 0 ≤ y) (h4 : y ≤ 99999) : 0 ≤ x * y ∧ x * y ≤ 9999800001 := by
  refine ⟨Int.mul_nonneg h1 h3, ?_⟩
  have := Int.mul_le_mul h2 h4 h3 (by omega)
  omega

theorem cross_any (n d m b : Int) (w : World) (h1 : 0 ≤ n) (h2 : n ≤ 99999) (h3 : 0 ≤ b) (h4 : b ≤ 99999) :
    Calls Tryz.prog 63 #[.iface 133 (.agg #[.int .i64 n, .int .i64 d]), .iface 133 (.agg #[.int .i64 m, .int .i64 b])] w fun e w' => e = .returned (.int .i64 (n * b)) ∧ Below w.heap.size w w' := by
  have mB := meth_below
  have mA := meth_above
  obtain ⟨k1, k2⟩ := mul_bd n b h1 h2 h3 h4
  go_enter Tryz.func63, Tryz.ntmps63
  go_wp2_with (first
    | (go_at_call 143; refine (above_any _ _ _).mono ?_; rintro e w' ⟨rfl, rfl⟩)
    | (go_at_call 144; refine (below_any _ _ _).mono ?_; rintro e w' ⟨rfl, rfl⟩))
  go_ret
  exact ⟨rfl, by repeat (first | exact bw_refl _ | apply bw_drewN | apply bw_drew | apply bw_alloc | refine bw_set ?_ (by simp) _)⟩

theorem compare_any (x y : Int) (w : World) :
    Calls Tryz.prog 62 #[.int .i64 x, .int .i64 y] w fun e w' => e = .returned (.int .i64 (cmpI x y)) ∧ Below w.heap.size w w' := by
  have hc : x < y ∨ (¬ x < y ∧ y < x) ∨ (¬ x < y ∧ ¬ y < x) := by omega
  rcases hc with h1 | ⟨h1, h2⟩ | ⟨h1, h2⟩
  · have e : Hid (cmpI x y = -1) := by unfold cmpI; rw [if_pos h1]; rfl
    go_enter Tryz.func62, Tryz.ntmps62
    go_wp2
    go_ret
    exact ⟨ret_int e.out.symm, bw_refl _⟩
  · have e : Hid (cmpI x y = 1) := by unfold cmpI; rw [if_neg h1, if_pos h2]; rfl
    go_enter Tryz.func62, Tryz.ntmps62
    go_wp2
    go_ret
    exact ⟨ret_int e.out.symm, bw_refl _⟩
  · have e : Hid (cmpI x y = 0) := by unfold cmpI; rw [if_neg h1, if_neg h2]; rfl
    go_enter Tryz.func62, Tryz.ntmps62
    go_wp2
    go_ret
    exact ⟨ret_int e.out.symm, bw_refl _⟩

/-- What FracCmp answers. -/
def cmpV (n d m b : Int) : Int := if okB n d && okB m b then cmpI (n * b) (m * d) else 2

theorem fracCmp_left (n d m b : Int) (a : Addr) (w : World) (hs : Sent a w) (h : okB n d = false) :
    Calls Tryz.prog 24 #[.agg #[.int .i64 n, .int .i64 d], .agg #[.int .i64 m, .int .i64 b]] w fun e w' => e = .returned (.int .i64 2) ∧ Below w.heap.size w w' := by
  have b0 : Below w.heap.size w ((w.alloc (.cells #[.int .i64 n, .int .i64 d] 47)).alloc (.cells #[.int .i64 m, .int .i64 b] 47)) := bw_alloc (bw_alloc (bw_refl _) _) _
  go_enter Tryz.func24, Tryz.ntmps24
  go_wp2_with (first
    | (go_at_call 61; refine (ratio_bad _ _ a _ ?_ h).mono ?_; exact hs.below b0; rintro e w' ⟨rfl, hb⟩; have hs1 := hs.below (bw_trans b0 hb); unfold Sent at hs1)
    | (go_at_call 58; refine (is_same _ _).mono ?_; rintro e w' ⟨rfl, rfl⟩))
  go_ret
  exact ⟨rfl, bw_trans b0 hb⟩
end Go.Proofs.YtmdjhoknlplecaaGreatDoor
namespace Go.Proofs.YtmdjhoknlplecaaGreatDoor
open Go.RowKit

theorem fracCmp_right (n d m b : Int) (a : Addr) (w : World) (hs : Sent a w) (h : okB n d = true) (h2 : okB m b = false) :
    Calls Tryz.prog 24 #[.agg #[.int .i64 n, .int .i64 d], .agg #[.int .i64 m, .int .i64 b]] w fun e w' => e = .returned (.int .i64 2) ∧ Below w.heap.size w w' := by
  have b0 : Below w.heap.size w ((w.alloc (.cells #[.int .i64 n, .int .i64 d] 47)).alloc (.cells #[.int .i64 m, .int .i64 b] 47)) := bw_alloc (bw_alloc (bw_refl _) _) _
  go_enter Tryz.func24, Tryz.ntmps24
  go_wp2_with fail
  refine (ratio_ok _ _ _ h).mono ?_
  rintro e w1 ⟨rfl, hb⟩
  have hs1 := hs.below (bw_trans b0 hb)
  obtain ⟨hc1, hf1⟩ := bcell hb
  have HB : Hid (Below w.heap.size w w1) := bw_trans b0 hb
  have hs2 := hs1
  unfold Sent at hs1
  go_wp2_with (go_at_call 58; refine (is_nil _ _).mono ?_; rintro e w' ⟨rfl, rfl⟩)
  refine (ratio_bad _ _ a _ hs2 h2).mono ?_
  rintro e w2 ⟨rfl, hb2⟩
  have hs3 := hs2.below hb2
  unfold Sent at hs3
  go_wp2_with (go_at_call 58; refine (is_same _ _).mono ?_; rintro e w' ⟨rfl, rfl⟩)
  go_ret
  exact ⟨rfl, bw_trans HB.out hb2⟩

theorem fracCmp_both (n d m b : Int) (a : Addr) (w : World) (hs : Sent a w) (h : okB n d = true) (h2 : okB m b = true) :
    Calls Tryz.prog 24 #[.agg #[.int .i64 n, .int .i64 d], .agg #[.int .i64 m, .int .i64 b]] w fun e w' => e = .returned (.int .i64 (cmpI (n * b) (m * d))) ∧ Below w.heap.size w w' := by
  have b0 : Below w.heap.size w ((w.alloc (.cells #[.int .i64 n, .int .i64 d] 47)).alloc (.cells #[.int .i64 m, .int .i64 b] 47)) := bw_alloc (bw_alloc (bw_refl _) _) _
  have k1 := (okB_iff n d).1 h
  have k2 := (okB_iff m b).1 h2
  go_enter Tryz.func24, Tryz.ntmps24
  go_wp2_with fail
  refine (ratio_ok _ _ _ h).mono ?_
  rintro e w1 ⟨rfl, hb⟩
  have hs1 := hs.below (bw_trans b0 hb)
  obtain ⟨hc1, hf1⟩ := bcell hb
  have HB : Hid (Below w.heap.size w w1) := bw_trans b0 hb
  have hs2 := hs1
  unfold Sent at hs1
  go_wp2_with (go_at_call 58; refine (is_nil _ _).mono ?_; rintro e w' ⟨rfl, rfl⟩)
  refine (ratio_ok _ _ _ h2).mono ?_
  rintro e w2 ⟨rfl, hb2⟩
  have hs3 := hs2.below hb2
  unfold Sent at hs3
  have HB2 : Hid (Below w.heap.size w w2) := bw_trans HB.out hb2
  clear hb hb2 hc1 hf1 hs1 HB
  go_wp2_with (go_at_call 58; refine (is_nil _ _).mono ?_; rintro e w' ⟨rfl, rfl⟩)
  refine (cross_any n d m b _ k1.1 k1.2.1 (by omega) k2.2.2.2.1).mono ?_
  rintro e w3 ⟨rfl, hb3⟩
  go_wp2_with fail
  refine (cross_any m b n d _ k2.1 k2.2.1 (by omega) k1.2.2.2.1).mono ?_
  rintro e w4 ⟨rfl, hb4⟩
  go_wp2_with fail
  refine (compare_any _ _ _).mono ?_
  rintro e w5 ⟨rfl, hb5⟩
  go_wp2_with fail
  go_ret
  exact ⟨rfl, bw_trans (bw_trans (bw_trans HB2.out hb3) hb4) hb5⟩

/-- FracCmp at every two fractions. -/
theorem fracCmp_any (n d m b : Int) (a : Addr) (w : World) (hs : Sent a w) :
    Calls Tryz.prog 24 #[.agg #[.int .i64 n, .int .i64 d], .agg #[.int .i64 m, .int .i64 b]] w fun e w' => e = .returned (.int .i64 (cmpV n d m b)) ∧ Below w.heap.size w w' := by
  unfold cmpV
  cases h : okB n d
  · exact fracCmp_left n d m b a w hs h
  · cases h2 : okB m b
    · exact fracCmp_right n d m b a w hs h h2
    · exact fracCmp_both n d m b a w hs h h2
/-- FracOf at every two numbers. -/
theorem fracOf_any (n d : Int) (a : Addr) (w : World) (hs : Sent a w) :
    Calls Tryz.prog 22 #[.int .i64 n, .int .i64 d] w fun e w' => e = .returned (.tuple #[.agg #[.int .i64 (ofN n d), .int .i64 (ofD n d)], .bool (inB n d)]) ∧ Below w.heap.size w w' := by
  unfold ofN ofD
  cases h : inB n d
  · exact fracOf_bad n d a w hs h
  · exact fracOf_ok n d a w hs h
end Go.Proofs.YtmdjhoknlplecaaGreatDoor
namespace Go.Proofs.YtmdjhoknlplecaaGreatDoor
open Go.RowKit Go.Sort

theorem cellB {W w : World} {a : Addr} {v : Value} (J : Below W.heap.size W w) (h : W.cell? a = some v) : w.cell? a = some v := by
  rw [J.cell (World.block_lt_of_cell? _ _ h)]; exact h
theorem cellS2 {W : World} {p m n : Nat} {x y v : Value} {a : Addr} (h : W.cell? a = some v) (hb : a.block ≠ p) : ((W.setCell ⟨p, m, none⟩ x).setCell ⟨p, n, none⟩ y).cell? a = some v := by
  rw [← h]
  refine World.cell?_of_block (w := W) ?_
  rw [Below.heap_setCell _ _ _ _ (by show a.block ≠ p; exact hb), Below.heap_setCell _ _ _ _ (by show a.block ≠ p; exact hb)]
theorem setF2 {w : World} {b : Nat} {x0 x1 u0 u1 : Value} {t : TypeId} (h : w.heap[b]? = some (.cells #[x0, x1] t (0, 0))) : ((w.setCell ⟨b, 0, none⟩ u0).setCell ⟨b, 1, none⟩ u1).heap[b]? = some (.cells #[u0, u1] t (0, 0)) := by
  simp [World.setCell, Array.getElem?_modify, h]
theorem cB4 {W w : World} {a0 a1 a2 a3 : Addr} {v0 v1 v2 v3 : Value} (J : Below W.heap.size W w) (h : W.cell? a0 = some v0 ∧ W.cell? a1 = some v1 ∧ W.cell? a2 = some v2 ∧ W.cell? a3 = some v3) : w.cell? a0 = some v0 ∧ w.cell? a1 = some v1 ∧ w.cell? a2 = some v2 ∧ w.cell? a3 = some v3 :=
  ⟨cellB J h.1, cellB J h.2.1, cellB J h.2.2.1, cellB J h.2.2.2⟩
theorem cA4 {W : World} {o : Obj} {a0 a1 a2 a3 : Addr} {v0 v1 v2 v3 : Value} (h : W.cell? a0 = some v0 ∧ W.cell? a1 = some v1 ∧ W.cell? a2 = some v2 ∧ W.cell? a3 = some v3) : (W.alloc o).cell? a0 = some v0 ∧ (W.alloc o).cell? a1 = some v1 ∧ (W.alloc o).cell? a2 = some v2 ∧ (W.alloc o).cell? a3 = some v3 := cB4 (bw_alloc (bw_refl _) _) h
theorem cS4 {W : World} {p m n : Nat} {x y : Value} {a0 a1 a2 a3 : Addr} {v0 v1 v2 v3 : Value} (h : W.cell? a0 = some v0 ∧ W.cell? a1 = some v1 ∧ W.cell? a2 = some v2 ∧ W.cell? a3 = some v3) (n0 : a0.block ≠ p) (n1 : a1.block ≠ p) (n2 : a2.block ≠ p) (n3 : a3.block ≠ p) : ((W.setCell ⟨p, m, none⟩ x).setCell ⟨p, n, none⟩ y).cell? a0 = some v0 ∧ ((W.setCell ⟨p, m, none⟩ x).setCell ⟨p, n, none⟩ y).cell? a1 = some v1 ∧ ((W.setCell ⟨p, m, none⟩ x).setCell ⟨p, n, none⟩ y).cell? a2 = some v2 ∧ ((W.setCell ⟨p, m, none⟩ x).setCell ⟨p, n, none⟩ y).cell? a3 = some v3 :=
  ⟨cellS2 h.1 n0, cellS2 h.2.1 n1, cellS2 h.2.2.1 n2, cellS2 h.2.2.2 n3⟩
theorem cT4 {W : World} {p m n k l : Nat} {x y z u : Value} {a0 a1 a2 a3 : Addr} {v0 v1 v2 v3 : Value} (h : W.cell? a0 = some v0 ∧ W.cell? a1 = some v1 ∧ W.cell? a2 = some v2 ∧ W.cell? a3 = some v3) (n0 : a0.block ≠ p) (n1 : a1.block ≠ p) (n2 : a2.block ≠ p) (n3 : a3.block ≠ p) : ((((W.setCell ⟨p, m, none⟩ x).setCell ⟨p, n, none⟩ y).setCell ⟨p, k, none⟩ z).setCell ⟨p, l, none⟩ u).cell? a0 = some v0 ∧ ((((W.setCell ⟨p, m, none⟩ x).setCell ⟨p, n, none⟩ y).setCell ⟨p, k, none⟩ z).setCell ⟨p, l, none⟩ u).cell? a1 = some v1 ∧ ((((W.setCell ⟨p, m, none⟩ x).setCell ⟨p, n, none⟩ y).setCell ⟨p, k, none⟩ z).setCell ⟨p, l, none⟩ u).cell? a2 = some v2 ∧ ((((W.setCell ⟨p, m, none⟩ x).setCell ⟨p, n, none⟩ y).setCell ⟨p, k, none⟩ z).setCell ⟨p, l, none⟩ u).cell? a3 = some v3 := cS4 (cS4 h n0 n1 n2 n3) n0 n1 n2 n3
theorem cB8 {W w : World} {a0 a1 a2 a3 a4 a5 a6 a7 : Addr} {v0 v1 v2 v3 v4 v5 v6 v7 : Value} (J : Below W.heap.size W w) (h : W.cell? a0 = some v0 ∧ W.cell? a1 = some v1 ∧ W.cell? a2 = some v2 ∧ W.cell? a3 = some v3 ∧ W.cell? a4 = some v4 ∧ W.cell? a5 = some v5 ∧ W.cell? a6 = some v6 ∧ W.cell? a7 = some v7) : w.cell? a0 = some v0 ∧ w.cell? a1 = some v1 ∧ w.cell? a2 = some v2 ∧ w.cell? a3 = some v3 ∧ w.cell? a4 = some v4 ∧ w.cell? a5 = some v5 ∧ w.cell? a6 = some v6 ∧ w.cell? a7 = some v7 :=
  ⟨cellB J h.1, cellB J h.2.1, cellB J h.2.2.1, cellB J h.2.2.2.1, cellB J h.2.2.2.2.1, cellB J h.2.2.2.2.2.1, cellB J h.2.2.2.2.2.2.1, cellB J h.2.2.2.2.2.2.2⟩
theorem cA8 {W : World} {o : Obj} {a0 a1 a2 a3 a4 a5 a6 a7 : Addr} {v0 v1 v2 v3 v4 v5 v6 v7 : Value} (h : W.cell? a0 = some v0 ∧ W.cell? a1 = some v1 ∧ W.cell? a2 = some v2 ∧ W.cell? a3 = some v3 ∧ W.cell? a4 = some v4 ∧ W.cell? a5 = some v5 ∧ W.cell? a6 = some v6 ∧ W.cell? a7 = some v7) : (W.alloc o).cell? a0 = some v0 ∧ (W.alloc o).cell? a1 = some v1 ∧ (W.alloc o).cell? a2 = some v2 ∧ (W.alloc o).cell? a3 = some v3 ∧ (W.alloc o).cell? a4 = some v4 ∧ (W.alloc o).cell? a5 = some v5 ∧ (W.alloc o).cell? a6 = some v6 ∧ (W.alloc o).cell? a7 = some v7 := cB8 (bw_alloc (bw_refl _) _) h
theorem cS8 {W : World} {p m n : Nat} {x y : Value} {a0 a1 a2 a3 a4 a5 a6 a7 : Addr} {v0 v1 v2 v3 v4 v5 v6 v7 : Value} (h : W.cell? a0 = some v0 ∧ W.cell? a1 = some v1 ∧ W.cell? a2 = some v2 ∧ W.cell? a3 = some v3 ∧ W.cell? a4 = some v4 ∧ W.cell? a5 = some v5 ∧ W.cell? a6 = some v6 ∧ W.cell? a7 = some v7) (n0 : a0.block ≠ p) (n1 : a1.block ≠ p) (n2 : a2.block ≠ p) (n3 : a3.block ≠ p) (n4 : a4.block ≠ p) (n5 : a5.block ≠ p) (n6 : a6.block ≠ p) (n7 : a7.block ≠ p) : ((W.setCell ⟨p, m, none⟩ x).setCell ⟨p, n, none⟩ y).cell? a0 = some v0 ∧ ((W.setCell ⟨p, m, none⟩ x).setCell ⟨p, n, none⟩ y).cell? a1 = some v1 ∧ ((W.setCell ⟨p, m, none⟩ x).setCell ⟨p, n, none⟩ y).cell? a2 = some v2 ∧ ((W.setCell ⟨p, m, none⟩ x).setCell ⟨p, n, none⟩ y).cell? a3 = some v3 ∧ ((W.setCell ⟨p, m, none⟩ x).setCell ⟨p, n, none⟩ y).cell? a4 = some v4 ∧ ((W.setCell ⟨p, m, none⟩ x).setCell ⟨p, n, none⟩ y).cell? a5 = some v5 ∧ ((W.setCell ⟨p, m, none⟩ x).setCell ⟨p, n, none⟩ y).cell? a6 = some v6 ∧ ((W.setCell ⟨p, m, none⟩ x).setCell ⟨p, n, none⟩ y).cell? a7 = some v7 :=
  ⟨cellS2 h.1 n0, cellS2 h.2.1 n1, cellS2 h.2.2.1 n2, cellS2 h.2.2.2.1 n3, cellS2 h.2.2.2.2.1 n4, cellS2 h.2.2.2.2.2.1 n5, cellS2 h.2.2.2.2.2.2.1 n6, cellS2 h.2.2.2.2.2.2.2 n7⟩
theorem cT8 {W : World} {p m n k l : Nat} {x y z u : Value} {a0 a1 a2 a3 a4 a5 a6 a7 : Addr} {v0 v1 v2 v3 v4 v5 v6 v7 : Value} (h : W.cell? a0 = some v0 ∧ W.cell? a1 = some v1 ∧ W.cell? a2 = some v2 ∧ W.cell? a3 = some v3 ∧ W.cell? a4 = some v4 ∧ W.cell? a5 = some v5 ∧ W.cell? a6 = some v6 ∧ W.cell? a7 = some v7) (n0 : a0.block ≠ p) (n1 : a1.block ≠ p) (n2 : a2.block ≠ p) (n3 : a3.block ≠ p) (n4 : a4.block ≠ p) (n5 : a5.block ≠ p) (n6 : a6.block ≠ p) (n7 : a7.block ≠ p) : ((((W.setCell ⟨p, m, none⟩ x).setCell ⟨p, n, none⟩ y).setCell ⟨p, k, none⟩ z).setCell ⟨p, l, none⟩ u).cell? a0 = some v0 ∧ ((((W.setCell ⟨p, m, none⟩ x).setCell ⟨p, n, none⟩ y).setCell ⟨p, k, none⟩ z).setCell ⟨p, l, none⟩ u).cell? a1 = some v1 ∧ ((((W.setCell ⟨p, m, none⟩ x).setCell ⟨p, n, none⟩ y).setCell ⟨p, k, none⟩ z).setCell ⟨p, l, none⟩ u).cell? a2 = some v2 ∧ ((((W.setCell ⟨p, m, none⟩ x).setCell ⟨p, n, none⟩ y).setCell ⟨p, k, none⟩ z).setCell ⟨p, l, none⟩ u).cell? a3 = some v3 ∧ ((((W.setCell ⟨p, m, none⟩ x).setCell ⟨p, n, none⟩ y).setCell ⟨p, k, none⟩ z).setCell ⟨p, l, none⟩ u).cell? a4 = some v4 ∧ ((((W.setCell ⟨p, m, none⟩ x).setCell ⟨p, n, none⟩ y).setCell ⟨p, k, none⟩ z).setCell ⟨p, l, none⟩ u).cell? a5 = some v5 ∧ ((((W.setCell ⟨p, m, none⟩ x).setCell ⟨p, n, none⟩ y).setCell ⟨p, k, none⟩ z).setCell ⟨p, l, none⟩ u).cell? a6 = some v6 ∧ ((((W.setCell ⟨p, m, none⟩ x).setCell ⟨p, n, none⟩ y).setCell ⟨p, k, none⟩ z).setCell ⟨p, l, none⟩ u).cell? a7 = some v7 := cS8 (cS8 h n0 n1 n2 n3 n4 n5 n6 n7) n0 n1 n2 n3 n4 n5 n6 n7
theorem cB9 {W w : World} {a0 a1 a2 a3 a4 a5 a6 a7 a8 : Addr} {v0 v1 v2 v3 v4 v5 v6 v7 v8 : Value} (J : Below W.heap.size W w) (h : W.cell? a0 = some v0 ∧ W.cell? a1 = some v1 ∧ W.cell? a2 = some v2 ∧ W.cell? a3 = some v3 ∧ W.cell? a4 = some v4 ∧ W.cell? a5 = some v5 ∧ W.cell? a6 = some v6 ∧ W.cell? a7 = some v7 ∧ W.cell? a8 = some v8) : w.cell? a0 = some v0 ∧ w.cell? a1 = some v1 ∧ w.cell? a2 = some v2 ∧ w.cell? a3 = some v3 ∧ w.cell? a4 = some v4 ∧ w.cell? a5 = some v5 ∧ w.cell? a6 = some v6 ∧ w.cell? a7 = some v7 ∧ w.cell? a8 = some v8 :=
  ⟨cellB J h.1, cellB J h.2.1, cellB J h.2.2.1, cellB J h.2.2.2.1, cellB J h.2.2.2.2.1, cellB J h.2.2.2.2.2.1, cellB J h.2.2.2.2.2.2.1, cellB J h.2.2.2.2.2.2.2.1, cellB J h.2.2.2.2.2.2.2.2⟩
theorem cA9 {W : World} {o : Obj} {a0 a1 a2 a3 a4 a5 a6 a7 a8 : Addr} {v0 v1 v2 v3 v4 v5 v6 v7 v8 : Value} (h : W.cell? a0 = some v0 ∧ W.cell? a1 = some v1 ∧ W.cell? a2 = some v2 ∧ W.cell? a3 = some v3 ∧ W.cell? a4 = some v4 ∧ W.cell? a5 = some v5 ∧ W.cell? a6 = some v6 ∧ W.cell? a7 = some v7 ∧ W.cell? a8 = some v8) : (W.alloc o).cell? a0 = some v0 ∧ (W.alloc o).cell? a1 = some v1 ∧ (W.alloc o).cell? a2 = some v2 ∧ (W.alloc o).cell? a3 = some v3 ∧ (W.alloc o).cell? a4 = some v4 ∧ (W.alloc o).cell? a5 = some v5 ∧ (W.alloc o).cell? a6 = some v6 ∧ (W.alloc o).cell? a7 = some v7 ∧ (W.alloc o).cell? a8 = some v8 := cB9 (bw_alloc (bw_refl _) _) h
theorem cS9 {W : World} {p m n : Nat} {x y : Value} {a0 a1 a2 a3 a4 a5 a6 a7 a8 : Addr} {v0 v1 v2 v3 v4 v5 v6 v7 v8 : Value} (h : W.cell? a0 = some v0 ∧ W.cell? a1 = some v1 ∧ W.cell? a2 = some v2 ∧ W.cell? a3 = some v3 ∧ W.cell? a4 = some v4 ∧ W.cell? a5 = some v5 ∧ W.cell? a6 = some v6 ∧ W.cell? a7 = some v7 ∧ W.cell? a8 = some v8) (n0 : a0.block ≠ p) (n1 : a1.block ≠ p) (n2 : a2.block ≠ p) (n3 : a3.block ≠ p) (n4 : a4.block ≠ p) (n5 : a5.block ≠ p) (n6 : a6.block ≠ p) (n7 : a7.block ≠ p) (n8 : a8.block ≠ p) : ((W.setCell ⟨p, m, none⟩ x).setCell ⟨p, n, none⟩ y).cell? a0 = some v0 ∧ ((W.setCell ⟨p, m, none⟩ x).setCell ⟨p, n, none⟩ y).cell? a1 = some v1 ∧ ((W.setCell ⟨p, m, none⟩ x).setCell ⟨p, n, none⟩ y).cell? a2 = some v2 ∧ ((W.setCell ⟨p, m, none⟩ x).setCell ⟨p, n, none⟩ y).cell? a3 = some v3 ∧ ((W.setCell ⟨p, m, none⟩ x).setCell ⟨p, n, none⟩ y).cell? a4 = some v4 ∧ ((W.setCell ⟨p, m, none⟩ x).setCell ⟨p, n, none⟩ y).cell? a5 = some v5 ∧ ((W.setCell ⟨p, m, none⟩ x).setCell ⟨p, n, none⟩ y).cell? a6 = some v6 ∧ ((W.setCell ⟨p, m, none⟩ x).setCell ⟨p, n, none⟩ y).cell? a7 = some v7 ∧ ((W.setCell ⟨p, m, none⟩ x).setCell ⟨p, n, none⟩ y).cell? a8 = some v8 :=
  ⟨cellS2 h.1 n0, cellS2 h.2.1 n1, cellS2 h.2.2.1 n2, cellS2 h.2.2.2.1 n3, cellS2 h.2.2.2.2.1 n4, cellS2 h.2.2.2.2.2.1 n5, cellS2 h.2.2.2.2.2.2.1 n6, cellS2 h.2.2.2.2.2.2.2.1 n7, cellS2 h.2.2.2.2.2.2.2.2 n8⟩
theorem cT9 {W : World} {p m n k l : Nat} {x y z u : Value} {a0 a1 a2 a3 a4 a5 a6 a7 a8 : Addr} {v0 v1 v2 v3 v4 v5 v6 v7 v8 : Value} (h : W.cell? a0 = some v0 ∧ W.cell? a1 = some v1 ∧ W.cell? a2 = some v2 ∧ W.cell? a3 = some v3 ∧ W.cell? a4 = some v4 ∧ W.cell? a5 = some v5 ∧ W.cell? a6 = some v6 ∧ W.cell? a7 = some v7 ∧ W.cell? a8 = some v8) (n0 : a0.block ≠ p) (n1 : a1.block ≠ p) (n2 : a2.block ≠ p) (n3 : a3.block ≠ p) (n4 : a4.block ≠ p) (n5 : a5.block ≠ p) (n6 : a6.block ≠ p) (n7 : a7.block ≠ p) (n8 : a8.block ≠ p) : ((((W.setCell ⟨p, m, none⟩ x).setCell ⟨p, n, none⟩ y).setCell ⟨p, k, none⟩ z).setCell ⟨p, l, none⟩ u).cell? a0 = some v0 ∧ ((((W.setCell ⟨p, m, none⟩ x).setCell ⟨p, n, none⟩ y).setCell ⟨p, k, none⟩ z).setCell ⟨p, l, none⟩ u).cell? a1 = some v1 ∧ ((((W.setCell ⟨p, m, none⟩ x).setCell ⟨p, n, none⟩ y).setCell ⟨p, k, none⟩ z).setCell ⟨p, l, none⟩ u).cell? a2 = some v2 ∧ ((((W.setCell ⟨p, m, none⟩ x).setCell ⟨p, n, none⟩ y).setCell ⟨p, k, none⟩ z).setCell ⟨p, l, none⟩ u).cell? a3 = some v3 ∧ ((((W.setCell ⟨p, m, none⟩ x).setCell ⟨p, n, none⟩ y).setCell ⟨p, k, none⟩ z).setCell ⟨p, l, none⟩ u).cell? a4 = some v4 ∧ ((((W.setCell ⟨p, m, none⟩ x).setCell ⟨p, n, none⟩ y).setCell ⟨p, k, none⟩ z).setCell ⟨p, l, none⟩ u).cell? a5 = some v5 ∧ ((((W.setCell ⟨p, m, none⟩ x).setCell ⟨p, n, none⟩ y).setCell ⟨p, k, none⟩ z).setCell ⟨p, l, none⟩ u).cell? a6 = some v6 ∧ ((((W.setCell ⟨p, m, none⟩ x).setCell ⟨p, n, none⟩ y).setCell ⟨p, k, none⟩ z).setCell ⟨p, l, none⟩ u).cell? a7 = some v7 ∧ ((((W.setCell ⟨p, m, none⟩ x).setCell ⟨p, n, none⟩ y).setCell ⟨p, k, none⟩ z).setCell ⟨p, l, none⟩ u).cell? a8 = some v8 := cS9 (cS9 h n0 n1 n2 n3 n4 n5 n6 n7 n8) n0 n1 n2 n3 n4 n5 n6 n7 n8
theorem cB6 {W w : World} {a0 a1 a2 a3 a4 a5 : Addr} {v0 v1 v2 v3 v4 v5 : Value} (J : Below W.heap.size W w) (h : W.cell? a0 = some v0 ∧ W.cell? a1 = some v1 ∧ W.cell? a2 = some v2 ∧ W.cell? a3 = some v3 ∧ W.cell? a4 = some v4 ∧ W.cell? a5 = some v5) : w.cell? a0 = some v0 ∧ w.cell? a1 = some v1 ∧ w.cell? a2 = some v2 ∧ w.cell? a3 = some v3 ∧ w.cell? a4 = some v4 ∧ w.cell? a5 = some v5 :=
  ⟨cellB J h.1, cellB J h.2.1, cellB J h.2.2.1, cellB J h.2.2.2.1, cellB J h.2.2.2.2.1, cellB J h.2.2.2.2.2⟩
theorem cA6 {W : World} {o : Obj} {a0 a1 a2 a3 a4 a5 : Addr} {v0 v1 v2 v3 v4 v5 : Value} (h : W.cell? a0 = some v0 ∧ W.cell? a1 = some v1 ∧ W.cell? a2 = some v2 ∧ W.cell? a3 = some v3 ∧ W.cell? a4 = some v4 ∧ W.cell? a5 = some v5) : (W.alloc o).cell? a0 = some v0 ∧ (W.alloc o).cell? a1 = some v1 ∧ (W.alloc o).cell? a2 = some v2 ∧ (W.alloc o).cell? a3 = some v3 ∧ (W.alloc o).cell? a4 = some v4 ∧ (W.alloc o).cell? a5 = some v5 := cB6 (bw_alloc (bw_refl _) _) h
theorem cS6 {W : World} {p m n : Nat} {x y : Value} {a0 a1 a2 a3 a4 a5 : Addr} {v0 v1 v2 v3 v4 v5 : Value} (h : W.cell? a0 = some v0 ∧ W.cell? a1 = some v1 ∧ W.cell? a2 = some v2 ∧ W.cell? a3 = some v3 ∧ W.cell? a4 = some v4 ∧ W.cell? a5 = some v5) (n0 : a0.block ≠ p) (n1 : a1.block ≠ p) (n2 : a2.block ≠ p) (n3 : a3.block ≠ p) (n4 : a4.block ≠ p) (n5 : a5.block ≠ p) : ((W.setCell ⟨p, m, none⟩ x).setCell ⟨p, n, none⟩ y).cell? a0 = some v0 ∧ ((W.setCell ⟨p, m, none⟩ x).setCell ⟨p, n, none⟩ y).cell? a1 = some v1 ∧ ((W.setCell ⟨p, m, none⟩ x).setCell ⟨p, n, none⟩ y).cell? a2 = some v2 ∧ ((W.setCell ⟨p, m, none⟩ x).setCell ⟨p, n, none⟩ y).cell? a3 = some v3 ∧ ((W.setCell ⟨p, m, none⟩ x).setCell ⟨p, n, none⟩ y).cell? a4 = some v4 ∧ ((W.setCell ⟨p, m, none⟩ x).setCell ⟨p, n, none⟩ y).cell? a5 = some v5 :=
  ⟨cellS2 h.1 n0, cellS2 h.2.1 n1, cellS2 h.2.2.1 n2, cellS2 h.2.2.2.1 n3, cellS2 h.2.2.2.2.1 n4, cellS2 h.2.2.2.2.2 n5⟩
end Go.Proofs.YtmdjhoknlplecaaGreatDoor
namespace Go.Proofs.YtmdjhoknlplecaaGreatDoor
open Go.RowKit Go.Sort

theorem square_ok (ax ay bx b_y : Int) (w : World) (ha : ptB ax ay = true) (hb : ptB bx b_y = true) :
    Calls Tryz.prog 85 #[.agg #[.int .i64 ax, .int .i64 ay], .agg #[.int .i64 bx, .int .i64 b_y]] w fun e w' => e = .returned (.int .i64 (dt ax ay bx b_y bx b_y)) ∧ Below w.heap.size w w' := by
  go_enter Tryz.func85, Tryz.ntmps85
  go_wp2_with fail
  refine (along_any _ _ _ _ _ _ _ ha hb hb).mono ?_
  rintro e w1 ⟨rfl, J⟩
  obtain ⟨hc, hf⟩ := bcell J
  go_wp2_with fail
  go_ret
  exact ⟨rfl, bw_trans (by repeat (first | exact bw_refl _ | assumption | apply bw_drewN | apply bw_drew | apply bw_alloc | refine bw_set ?_ (by simp) _)) J⟩
theorem grid_any (n d : Int) (ad : Addr) (w : World) (hs : Sent ad w) :
    Calls Tryz.prog 69 #[.int .i64 n, .int .i64 d] w fun e w' => e = .returned (.agg #[.int .i64 (ofN n d), .int .i64 (ofD n d)]) ∧ Below w.heap.size w w' := by
  have b0 : Below w.heap.size w (w.alloc (.cells #[.int .i64 0, .int .i64 0] 47)) := bw_alloc (bw_refl _) _
  go_enter Tryz.func69, Tryz.ntmps69
  go_wp2_with fail
  refine (fracOf_any _ _ ad _ (hs.below b0)).mono ?_
  rintro e w1 ⟨rfl, J⟩
  obtain ⟨hc, hf⟩ := bcell J
  have HB : Hid (Below w.heap.size w w1) := bw_trans (by repeat (first | exact bw_refl _ | assumption | apply bw_drewN | apply bw_drew | apply bw_alloc | refine bw_set ?_ (by simp) _)) J
  have F := keep J (heap_new _ _)
  have hz' := blk_lt F
  have F2 : (((w1.setCell ⟨w.heap.size, 0, none⟩ (.int .i64 (ofN n d))).setCell ⟨w.heap.size, 1, none⟩ (.int .i64 (ofD n d))).alloc (.cells #[.int .i64 (ofN n d), .int .i64 (ofD n d)] 47)).heap[w.heap.size]? = some (.cells #[.int .i64 (ofN n d), .int .i64 (ofD n d)] 47 (0, 0)) := (heap_old _ _ (by simpa [World.setCell] using hz')).trans (setF2 F)
  obtain ⟨r0, r1⟩ := blk_2 F2
  clear J F F2
  go_wp2_with fail
  exact bodyPost_ret (v := .agg #[.int .i64 (ofN n d), .int .i64 (ofD n d)]) (by simp [results, Tryz.results69, go_sem, r0, r1]) rfl ⟨rfl, by repeat (first | with_reducible exact HB.out | with_reducible refine bw_alloc ?_ _ | with_reducible refine bw_set ?_ (by dsimp only; omega) _)⟩
theorem of_one (n : Int) (h : 0 ≤ n) (h2 : n ≤ 99999) : ofN n 1 = n ∧ ofD n 1 = 1 := by
  have hi : inB n 1 = true := (inB_iff n 1).2 ⟨h, h2, by omega, by omega⟩
  unfold ofN ofD
  rw [hi, G_one]
  exact ⟨by simp, by simp⟩
theorem grid_one (n : Int) (h : 0 ≤ n) (h2 : n ≤ 99999) (ad : Addr) (w : World) (hs : Sent ad w) :
    Calls Tryz.prog 69 #[.int .i64 n, .int .i64 1] w fun e w' => e = .returned (.agg #[.int .i64 n, .int .i64 1]) ∧ Below w.heap.size w w' := by
  obtain ⟨e1, e2⟩ := of_one n h h2
  have := grid_any n 1 ad w hs
  rwa [e1, e2] at this
set_option maxHeartbeats 400000 in
theorem farFirst_ok (ax ay bx b_y px py : Int) (ad : Addr) (w : World) (h0 : Sent ad w) (gs : sgB ax ay bx b_y = true) (gp : ptB px py = true) :
    Calls Tryz.prog 106 #[.agg #[.int .i64 ax, .int .i64 ay, .int .i64 bx, .int .i64 b_y], .agg #[.int .i64 px, .int .i64 py]] w fun e w' => e = .returned (.agg #[.int .i64 (dt ax ay px py px py), .int .i64 1]) ∧ Below w.heap.size w w' := by
  obtain ⟨ha, hb, _⟩ := sg_parts gs
  have d1 := dt_self_nonneg ax ay px py
  have d2 := dt_bd ha gp gp
  have b0 : Below w.heap.size w (((w.alloc (.cells #[.int .i64 ax, .int .i64 ay, .int .i64 bx, .int .i64 b_y] 62)).alloc (.cells #[.int .i64 px, .int .i64 py] 35)).alloc (.cells #[.int .i64 0, .int .i64 0] 47)) := (by repeat (first | exact bw_refl _ | assumption | apply bw_drewN | apply bw_drew | apply bw_alloc | refine bw_set ?_ (by simp) _))
  go_enter Tryz.func106, Tryz.ntmps106
  go_wp2_with fail
  refine (square_ok _ _ _ _ _ ha gp).mono ?_
  rintro e w1 ⟨rfl, J⟩
  obtain ⟨hc, hf⟩ := bcell J
  go_wp2_with fail
  refine (grid_one _ d1 (by omega) ad _ (h0.below (bw_trans b0 J))).mono ?_
  rintro e w1 ⟨rfl, J2⟩
  replace J := bw_trans J J2
  clear hc hf J2
  obtain ⟨hc, hf⟩ := bcell J
  have HB : Hid (Below w.heap.size w w1) := bw_trans (by repeat (first | exact bw_refl _ | assumption | apply bw_drewN | apply bw_drew | apply bw_alloc | refine bw_set ?_ (by simp) _)) J
  have hz := J.size
  simp at hz
  have hz' : w.heap.size + 2 < w1.heap.size := by omega
  clear hz J
  go_wp2_with fail
  exact bodyPost_ret (v := .agg #[.int .i64 (dt ax ay px py px py), .int .i64 1]) (by simp [results, Tryz.results106, go_sem, hc]) rfl ⟨rfl, by repeat (first | with_reducible exact HB.out | refine bw_set ?_ (by dsimp only; omega) _)⟩
set_option maxHeartbeats 400000 in
theorem farLast_ok (ax ay bx b_y px py : Int) (ad : Addr) (w : World) (h0 : Sent ad w) (gs : sgB ax ay bx b_y = true) (gp : ptB px py = true) :
    Calls Tryz.prog 108 #[.agg #[.int .i64 ax, .int .i64 ay, .int .i64 bx, .int .i64 b_y], .agg #[.int .i64 px, .int .i64 py]] w fun e w' => e = .returned (.agg #[.int .i64 (dt bx b_y px py px py), .int .i64 1]) ∧ Below w.heap.size w w' := by
  obtain ⟨ha, hb, _⟩ := sg_parts gs
  have d1 := dt_self_nonneg bx b_y px py
  have d2 := dt_bd hb gp gp
  have b0 : Below w.heap.size w (((w.alloc (.cells #[.int .i64 ax, .int .i64 ay, .int .i64 bx, .int .i64 b_y] 62)).alloc (.cells #[.int .i64 px, .int .i64 py] 35)).alloc (.cells #[.int .i64 0, .int .i64 0] 47)) := (by repeat (first | exact bw_refl _ | assumption | apply bw_drewN | apply bw_drew | apply bw_alloc | refine bw_set ?_ (by simp) _))
  go_enter Tryz.func108, Tryz.ntmps108
  go_wp2_with fail
  refine (square_ok _ _ _ _ _ hb gp).mono ?_
  rintro e w1 ⟨rfl, J⟩
  obtain ⟨hc, hf⟩ := bcell J
  go_wp2_with fail
  refine (grid_one _ d1 (by omega) ad _ (h0.below (bw_trans b0 J))).mono ?_
  rintro e w1 ⟨rfl, J2⟩
  replace J := bw_trans J J2
  clear hc hf J2
  obtain ⟨hc, hf⟩ := bcell J
  have HB : Hid (Below w.heap.size w w1) := bw_trans (by repeat (first | exact bw_refl _ | assumption | apply bw_drewN | apply bw_drew | apply bw_alloc | refine bw_set ?_ (by simp) _)) J
  have hz := J.size
  simp at hz
  have hz' : w.heap.size + 2 < w1.heap.size := by omega
  clear hz J
  go_wp2_with fail
  exact bodyPost_ret (v := .agg #[.int .i64 (dt bx b_y px py px py), .int .i64 1]) (by simp [results, Tryz.results108, go_sem, hc]) rfl ⟨rfl, by repeat (first | with_reducible exact HB.out | refine bw_set ?_ (by dsimp only; omega) _)⟩
set_option maxHeartbeats 400000 in
theorem farLine_ok (ax ay bx b_y px py : Int) (ad : Addr) (w : World) (h0 : Sent ad w) (gs : sgB ax ay bx b_y = true) (gp : ptB px py = true) :
    Calls Tryz.prog 107 #[.agg #[.int .i64 ax, .int .i64 ay, .int .i64 bx, .int .i64 b_y], .agg #[.int .i64 px, .int .i64 py]] w fun e w' => e = .returned (.agg #[.int .i64 (ofN (crs ax ay bx b_y px py * crs ax ay bx b_y px py) (dt ax ay bx b_y bx b_y)), .int .i64 (ofD (crs ax ay bx b_y px py * crs ax ay bx b_y px py) (dt ax ay bx b_y bx b_y))]) ∧ Below w.heap.size w w' := by
  obtain ⟨ha, hb, _⟩ := sg_parts gs
  have d1 := crs_bd ha hb gp
  have d2 := prod_bd2 d1.1 d1.2 d1.1 d1.2
  have b0 : Below w.heap.size w (((w.alloc (.cells #[.int .i64 ax, .int .i64 ay, .int .i64 bx, .int .i64 b_y] 62)).alloc (.cells #[.int .i64 px, .int .i64 py] 35)).alloc (.cells #[.int .i64 0, .int .i64 0] 47)) := (by repeat (first | exact bw_refl _ | assumption | apply bw_drewN | apply bw_drew | apply bw_alloc | refine bw_set ?_ (by simp) _))
  go_enter Tryz.func107, Tryz.ntmps107
  go_wp2_with fail
  refine (swept_any _ _ _ _ _ _ _ ha hb gp).mono ?_
  rintro e w1 ⟨rfl, J⟩
  obtain ⟨hc, hf⟩ := bcell J
  go_wp2_with fail
  refine (square_ok _ _ _ _ _ ha hb).mono ?_
  rintro e w1 ⟨rfl, J2⟩
  replace J := bw_trans J J2
  clear hc hf J2
  obtain ⟨hc, hf⟩ := bcell J
  go_wp2_with fail
  refine (grid_any _ _ ad _ (h0.below (bw_trans b0 J))).mono ?_
  rintro e w1 ⟨rfl, J2⟩
  replace J := bw_trans J J2
  clear hc hf J2
  obtain ⟨hc, hf⟩ := bcell J
  have HB : Hid (Below w.heap.size w w1) := bw_trans (by repeat (first | exact bw_refl _ | assumption | apply bw_drewN | apply bw_drew | apply bw_alloc | refine bw_set ?_ (by simp) _)) J
  have hz := J.size
  simp at hz
  have hz' : w.heap.size + 2 < w1.heap.size := by omega
  clear hz J
  go_wp2_with fail
  exact bodyPost_ret (v := .agg #[.int .i64 (ofN (crs ax ay bx b_y px py * crs ax ay bx b_y px py) (dt ax ay bx b_y bx b_y)), .int .i64 (ofD (crs ax ay bx b_y px py * crs ax ay bx b_y px py) (dt ax ay bx b_y bx b_y))]) (by simp [results, Tryz.results107, go_sem, hc]) rfl ⟨rfl, by repeat (first | with_reducible exact HB.out | refine bw_set ?_ (by dsimp only; omega) _)⟩
theorem where_first (ax ay bx b_y px py : Int) (w : World) (gs : sgB ax ay bx b_y = true) (gp : ptB px py = true) (h : dt ax ay bx b_y px py ≤ 0) :
    Calls Tryz.prog 109 #[.agg #[.int .i64 ax, .int .i64 ay, .int .i64 bx, .int .i64 b_y], .agg #[.int .i64 px, .int .i64 py]] w fun e w' => e = .returned (.int .i64 0) ∧ Below w.heap.size w w' := by
  obtain ⟨ha, hb, _⟩ := sg_parts gs
  go_enter Tryz.func109, Tryz.ntmps109
  go_wp2_with fail
  refine (along_any _ _ _ _ _ _ _ ha hb gp).mono ?_
  rintro e w1 ⟨rfl, J⟩
  obtain ⟨hc, hf⟩ := bcell J
  go_wp2_with fail
  go_ret
  exact ⟨rfl, bw_trans (by repeat (first | exact bw_refl _ | assumption | apply bw_drewN | apply bw_drew | apply bw_alloc | refine bw_set ?_ (by simp) _)) J⟩
theorem where_last (ax ay bx b_y px py : Int) (w : World) (gs : sgB ax ay bx b_y = true) (gp : ptB px py = true) (h : ¬ dt ax ay bx b_y px py ≤ 0) (h2 : dt bx b_y ax ay px py ≤ 0) :
    Calls Tryz.prog 109 #[.agg #[.int .i64 ax, .int .i64 ay, .int .i64 bx, .int .i64 b_y], .agg #[.int .i64 px, .int .i64 py]] w fun e w' => e = .returned (.int .i64 2) ∧ Below w.heap.size w w' := by
  obtain ⟨ha, hb, _⟩ := sg_parts gs
  have h' : 0 < dt ax ay bx b_y px py := by omega
  clear h
  go_enter Tryz.func109, Tryz.ntmps109
  go_wp2_with fail
  refine (along_any _ _ _ _ _ _ _ ha hb gp).mono ?_
  rintro e w1 ⟨rfl, J⟩
  obtain ⟨hc, hf⟩ := bcell J
  go_wp2_with fail
  refine (along_any _ _ _ _ _ _ _ hb ha gp).mono ?_
  rintro e w1 ⟨rfl, J2⟩
  replace J := bw_trans J J2
  clear hc hf J2
  obtain ⟨hc, hf⟩ := bcell J
  go_wp2_with fail
  go_ret
  exact ⟨rfl, bw_trans (by repeat (first | exact bw_refl _ | assumption | apply bw_drewN | apply bw_drew | apply bw_alloc | refine bw_set ?_ (by simp) _)) J⟩
theorem where_line (ax ay bx b_y px py : Int) (w : World) (gs : sgB ax ay bx b_y = true) (gp : ptB px py = true) (h : ¬ dt ax ay bx b_y px py ≤ 0) (h2 : ¬ dt bx b_y ax ay px py ≤ 0) :
    Calls Tryz.prog 109 #[.agg #[.int .i64 ax, .int .i64 ay, .int .i64 bx, .int .i64 b_y], .agg #[.int .i64 px, .int .i64 py]] w fun e w' => e = .returned (.int .i64 1) ∧ Below w.heap.size w w' := by
  obtain ⟨ha, hb, _⟩ := sg_parts gs
  have h' : 0 < dt ax ay bx b_y px py := by omega
  have h2' : 0 < dt bx b_y ax ay px py := by omega
  clear h h2
  go_enter Tryz.func109, Tryz.ntmps109
  go_wp2_with fail
  refine (along_any _ _ _ _ _ _ _ ha hb gp).mono ?_
  rintro e w1 ⟨rfl, J⟩
  obtain ⟨hc, hf⟩ := bcell J
  go_wp2_with fail
  refine (along_any _ _ _ _ _ _ _ hb ha gp).mono ?_
  rintro e w1 ⟨rfl, J2⟩
  replace J := bw_trans J J2
  clear hc hf J2
  obtain ⟨hc, hf⟩ := bcell J
  go_wp2_with fail
  go_ret
  exact ⟨rfl, bw_trans (by repeat (first | exact bw_refl _ | assumption | apply bw_drewN | apply bw_drew | apply bw_alloc | refine bw_set ?_ (by simp) _)) J⟩
end Go.Proofs.YtmdjhoknlplecaaGreatDoor
namespace Go.Proofs.YtmdjhoknlplecaaGreatDoor
open Go.RowKit Go.Sort

/-- How far, at whatever arguments. -/
def farV (ax ay bx b_y px py : Int) : Int × Int := if sgB ax ay bx b_y && ptB px py then far ax ay bx b_y px py else (0, 0)
theorem ret_fr {a b c d : Int} (h : a = c) (h2 : b = d) : Ending.returned (.agg #[.int .i64 a, .int .i64 b]) = .returned (.agg #[.int .i64 c, .int .i64 d]) := by rw [h, h2]
theorem blk_3 {w : World} {b : Nat} {x y z : Value} {t : TypeId} (h : w.heap[b]? = some (.cells #[x, y, z] t (0, 0))) :
    w.cell? ⟨b, 0, none⟩ = some x ∧ w.cell? ⟨b, 1, none⟩ = some y ∧ w.cell? ⟨b, 2, none⟩ = some z := by
  refine ⟨?_, ?_, ?_⟩ <;> simp [World.cell?, h]
theorem blkF {w : World} {b : Nat} {x y : Value} {t : TypeId} (h : w.heap[b]? = some (.cells #[x, y] t (0, 0))) :
    w.cell? ⟨b, 0, none⟩ = some x ∧ w.cell? ⟨b, 1, none⟩ = some y ∧ w.frozen? ⟨b, 0, none⟩ = false ∧ w.frozen? ⟨b, 1, none⟩ = false := by
  refine ⟨?_, ?_, ?_, ?_⟩ <;> simp [World.cell?, World.frozen?, h]
theorem farV_ok {ax ay bx b_y px py : Int} (gs : sgB ax ay bx b_y = true) (gp : ptB px py = true) : farV ax ay bx b_y px py = far ax ay bx b_y px py := by unfold farV; rw [gs, gp]; rfl
set_option maxHeartbeats 1000000 in
theorem segFar_no (ax ay bx b_y px py : Int) (w : World) (h : sgB ax ay bx b_y = false ∨ (sgB ax ay bx b_y = true ∧ ptB px py = false)) :
    Calls Tryz.prog 71 #[.agg #[.int .i64 ax, .int .i64 ay, .int .i64 bx, .int .i64 b_y], .agg #[.int .i64 px, .int .i64 py]] w fun e w' => e = .returned (.agg #[.int .i64 0, .int .i64 0]) ∧ Below w.heap.size w w' := by
  rcases h with gs | ⟨gs, gp⟩
  · go_enter Tryz.func71, Tryz.ntmps71
    go_wp2_with fail
    refine (segOk_any _ _ _ _ _).mono ?_
    rw [gs]
    rintro e w1 ⟨rfl, J⟩
    obtain ⟨hc, hf⟩ := bcell J
    have HB : Hid (Below w.heap.size w w1) := bw_trans (by repeat (first | exact bw_refl _ | assumption | apply bw_drewN | apply bw_drew | apply bw_alloc | refine bw_set ?_ (by simp) _)) J
    have hz := J.size
    simp at hz
    have hz' : w.heap.size + 2 < w1.heap.size := by omega
    clear hz J
    go_wp2_with fail
    exact bodyPost_ret (v := .agg #[.int .i64 0, .int .i64 0]) (by simp [results, Tryz.results71, go_sem, hc]) rfl ⟨rfl, by repeat (first | with_reducible exact HB.out | with_reducible refine bw_set ?_ (by dsimp only; omega) _)⟩
  · go_enter Tryz.func71, Tryz.ntmps71
    go_wp2_with fail
    refine (segOk_any _ _ _ _ _).mono ?_
    rw [gs]
    rintro e w1 ⟨rfl, J⟩
    obtain ⟨hc, hf⟩ := bcell J
    go_wp2_with fail
    refine (ptOk_any _ _ _).mono ?_
    rw [gp]
    rintro e w1 ⟨rfl, J2⟩
    replace J := bw_trans J J2
    clear hc hf J2
    obtain ⟨hc, hf⟩ := bcell J
    have HB : Hid (Below w.heap.size w w1) := bw_trans (by repeat (first | exact bw_refl _ | assumption | apply bw_drewN | apply bw_drew | apply bw_alloc | refine bw_set ?_ (by simp) _)) J
    have hz := J.size
    simp at hz
    have hz' : w.heap.size + 2 < w1.heap.size := by omega
    clear hz J
    go_wp2_with fail
    exact bodyPost_ret (v := .agg #[.int .i64 0, .int .i64 0]) (by simp [results, Tryz.results71, go_sem, hc]) rfl ⟨rfl, by repeat (first | with_reducible exact HB.out | with_reducible refine bw_set ?_ (by dsimp only; omega) _)⟩
set_option maxHeartbeats 2000000 in
theorem segFar_first (ax ay bx b_y px py : Int) (ad : Addr) (w : World) (h0 : Sent ad w) (gs : sgB ax ay bx b_y = true) (gp : ptB px py = true) (h : dt ax ay bx b_y px py ≤ 0) :
    Calls Tryz.prog 71 #[.agg #[.int .i64 ax, .int .i64 ay, .int .i64 bx, .int .i64 b_y], .agg #[.int .i64 px, .int .i64 py]] w fun e w' => e = .returned (.agg #[.int .i64 (dt ax ay px py px py), .int .i64 1]) ∧ Below w.heap.size w w' := by
  have b0 : Below w.heap.size w (((w.alloc (.cells #[.int .i64 ax, .int .i64 ay, .int .i64 bx, .int .i64 b_y] 62)).alloc (.cells #[.int .i64 px, .int .i64 py] 35)).alloc (.cells #[.int .i64 0, .int .i64 0] 47)) := (by repeat (first | exact bw_refl _ | assumption | apply bw_drewN | apply bw_drew | apply bw_alloc | refine bw_set ?_ (by simp) _))
  obtain ⟨W, hW, BW, SB, PB, RB⟩ := boxes3 w (.cells #[.int .i64 ax, .int .i64 ay, .int .i64 bx, .int .i64 b_y] 62) (.cells #[.int .i64 px, .int .i64 py] 35) (.cells #[.int .i64 0, .int .i64 0] 47)
  have WH : Hid (∀ w, Calls Tryz.prog 109 #[.agg #[.int .i64 ax, .int .i64 ay, .int .i64 bx, .int .i64 b_y], .agg #[.int .i64 px, .int .i64 py]] w fun e w' => e = .returned (.int .i64 0) ∧ Below w.heap.size w w') := fun w => where_first ax ay bx b_y px py w gs gp h
  have FA : Hid (∀ w, Sent ad w → _) := fun w hs => farFirst_ok ax ay bx b_y px py ad w hs gs gp
  clear h
  go_enter Tryz.func71, Tryz.ntmps71
  go_wp2_with fail
  refine (segOk_any _ _ _ _ _).mono ?_
  rw [gs]
  rintro e w1 ⟨rfl, J⟩
  obtain ⟨hc, hf⟩ := bcell J
  go_wp2_with fail
  refine (ptOk_any _ _ _).mono ?_
  rw [gp]
  rintro e w1 ⟨rfl, J2⟩
  replace J := bw_trans J J2
  clear hc hf J2
  obtain ⟨hc, hf⟩ := bcell J
  go_upto_region 4 with fail
  have FT : Hid (∃ W2, W2 = w1.alloc (.cells #[.func (.func 106) #[] #[], .func (.func 107) #[] #[], .func (.func 108) #[] #[]] 150)) := ⟨_, rfl⟩
  obtain ⟨W2, hW2⟩ := FT.out
  rw [← hW2]
  rw [← hW] at J
  replace SB := keep J SB
  replace PB := keep J PB
  replace RB := keep J RB
  have zr := blk_lt RB
  have nz : w1.heap.size < W2.heap.size := by rw [hW2]; simp
  have A2 := bw_alloc (bw_refl w1) (.cells #[.func (.func 106) #[] #[], .func (.func 107) #[] #[], .func (.func 108) #[] #[]] 150)
  have TB := heap_new w1 (.cells #[.func (.func 106) #[] #[], .func (.func 107) #[] #[], .func (.func 108) #[] #[]] 150)
  rw [← hW2] at A2 TB
  replace SB := keep A2 SB
  replace PB := keep A2 PB
  replace RB := keep A2 RB
  have H := bw_trans BW (bw_trans J A2)
  have hS0 : (fun w' => w'.cell? ⟨w.heap.size, 0, none⟩ = some (.int .i64 ax) ∧ w'.cell? ⟨w.heap.size, 1, none⟩ = some (.int .i64 ay) ∧ w'.cell? ⟨w.heap.size, 2, none⟩ = some (.int .i64 bx) ∧ w'.cell? ⟨w.heap.size, 3, none⟩ = some (.int .i64 b_y) ∧ w'.cell? ⟨w.heap.size + 1, 0, none⟩ = some (.int .i64 px) ∧ w'.cell? ⟨w.heap.size + 1, 1, none⟩ = some (.int .i64 py) ∧ w'.cell? ⟨w1.heap.size, 0, none⟩ = some (.func (.func 106) #[] #[]) ∧ w'.cell? ⟨w1.heap.size, 1, none⟩ = some (.func (.func 107) #[] #[]) ∧ w'.cell? ⟨w1.heap.size, 2, none⟩ = some (.func (.func 108) #[] #[])) W2 := by
    obtain ⟨s0, s1, s2, s3⟩ := blk_4 SB
    obtain ⟨p0, p1⟩ := blk_2 PB
    obtain ⟨t0, t1, t2⟩ := blk_3 TB
    exact ⟨s0, s1, s2, s3, p0, p1, t0, t1, t2⟩
  clear hW hc hf J A2 SB PB TB BW b0 FT hW2
  have hsD : Sent ad W2.drew := h0.below H.drew
  replace H := H.drew
  replace RB : W2.drew.heap[w.heap.size + 2]? = _ := RB
  go_region_held3 (fun w' => w'.cell? ⟨w.heap.size, 0, none⟩ = some (.int .i64 ax) ∧ w'.cell? ⟨w.heap.size, 1, none⟩ = some (.int .i64 ay) ∧ w'.cell? ⟨w.heap.size, 2, none⟩ = some (.int .i64 bx) ∧ w'.cell? ⟨w.heap.size, 3, none⟩ = some (.int .i64 b_y) ∧ w'.cell? ⟨w.heap.size + 1, 0, none⟩ = some (.int .i64 px) ∧ w'.cell? ⟨w.heap.size + 1, 1, none⟩ = some (.int .i64 py) ∧ w'.cell? ⟨w1.heap.size, 0, none⟩ = some (.func (.func 106) #[] #[]) ∧ w'.cell? ⟨w1.heap.size, 1, none⟩ = some (.func (.func 107) #[] #[]) ∧ w'.cell? ⟨w1.heap.size, 2, none⟩ = some (.func (.func 108) #[] #[])) (first | exact cB9 K (by assumption) | exact hS0 | exact cS9 (by assumption) (by dsimp only; omega) (by dsimp only; omega) (by dsimp only; omega) (by dsimp only; omega) (by dsimp only; omega) (by dsimp only; omega) (by dsimp only; omega) (by dsimp only; omega) (by dsimp only; omega)) (first | (go_at_call 109; refine (WH.out _).mono ?_; rintro e w2 ⟨rfl, K⟩; have hs2 := hsD.below K; replace H := bw_trans H K; replace RB := keep K RB) | (go_at_call 106; refine (FA.out _ hs2).mono ?_; rintro e w3 ⟨rfl, K⟩; replace H := bw_trans H K; replace RB := keep K RB; obtain ⟨q0, q1, qf0, qf1⟩ := blkF RB))
  have HB : Hid _ := H
  have zz := blk_lt RB
  have R2 := setF2 RB (u0 := .int .i64 (dt ax ay px py px py)) (u1 := .int .i64 1)
  obtain ⟨r0, r1⟩ := blk_2 R2
  clear H RB R2
  go_wp2_with fail
  exact bodyPost_ret (v := .agg #[.int .i64 (dt ax ay px py px py), .int .i64 1]) (by simp [results, Tryz.results71, go_sem, r0, r1]) rfl ⟨rfl, by repeat (first | with_reducible exact HB.out | with_reducible refine bw_set ?_ (by dsimp only; omega) _)⟩
end Go.Proofs.YtmdjhoknlplecaaGreatDoor
namespace Go.Proofs.YtmdjhoknlplecaaGreatDoor
open Go.RowKit Go.Sort

set_option maxHeartbeats 2000000 in
theorem segFar_last (ax ay bx b_y px py : Int) (ad : Addr) (w : World) (h0 : Sent ad w) (gs : sgB ax ay bx b_y = true) (gp : ptB px py = true) (h : ¬ dt ax ay bx b_y px py ≤ 0) (h2 : dt bx b_y ax ay px py ≤ 0) :
    Calls Tryz.prog 71 #[.agg #[.int .i64 ax, .int .i64 ay, .int .i64 bx, .int .i64 b_y], .agg #[.int .i64 px, .int .i64 py]] w fun e w' => e = .returned (.agg #[.int .i64 (dt bx b_y px py px py), .int .i64 1]) ∧ Below w.heap.size w w' := by
  have b0 : Below w.heap.size w (((w.alloc (.cells #[.int .i64 ax, .int .i64 ay, .int .i64 bx, .int .i64 b_y] 62)).alloc (.cells #[.int .i64 px, .int .i64 py] 35)).alloc (.cells #[.int .i64 0, .int .i64 0] 47)) := (by repeat (first | exact bw_refl _ | assumption | apply bw_drewN | apply bw_drew | apply bw_alloc | refine bw_set ?_ (by simp) _))
  obtain ⟨W, hW, BW, SB, PB, RB⟩ := boxes3 w (.cells #[.int .i64 ax, .int .i64 ay, .int .i64 bx, .int .i64 b_y] 62) (.cells #[.int .i64 px, .int .i64 py] 35) (.cells #[.int .i64 0, .int .i64 0] 47)
  have WH : Hid (∀ w, Calls Tryz.prog 109 #[.agg #[.int .i64 ax, .int .i64 ay, .int .i64 bx, .int .i64 b_y], .agg #[.int .i64 px, .int .i64 py]] w fun e w' => e = .returned (.int .i64 2) ∧ Below w.heap.size w w') := fun w => where_last ax ay bx b_y px py w gs gp h h2
  have FA : Hid (∀ w, Sent ad w → _) := fun w hs => farLast_ok ax ay bx b_y px py ad w hs gs gp
  clear h h2
  go_enter Tryz.func71, Tryz.ntmps71
  go_wp2_with fail
  refine (segOk_any _ _ _ _ _).mono ?_
  rw [gs]
  rintro e w1 ⟨rfl, J⟩
  obtain ⟨hc, hf⟩ := bcell J
  go_wp2_with fail
  refine (ptOk_any _ _ _).mono ?_
  rw [gp]
  rintro e w1 ⟨rfl, J2⟩
  replace J := bw_trans J J2
  clear hc hf J2
  obtain ⟨hc, hf⟩ := bcell J
  go_upto_region 4 with fail
  have FT : Hid (∃ W2, W2 = w1.alloc (.cells #[.func (.func 106) #[] #[], .func (.func 107) #[] #[], .func (.func 108) #[] #[]] 150)) := ⟨_, rfl⟩
  obtain ⟨W2, hW2⟩ := FT.out
  rw [← hW2]
  rw [← hW] at J
  replace SB := keep J SB
  replace PB := keep J PB
  replace RB := keep J RB
  have zr := blk_lt RB
  have nz : w1.heap.size < W2.heap.size := by rw [hW2]; simp
  have A2 := bw_alloc (bw_refl w1) (.cells #[.func (.func 106) #[] #[], .func (.func 107) #[] #[], .func (.func 108) #[] #[]] 150)
  have TB := heap_new w1 (.cells #[.func (.func 106) #[] #[], .func (.func 107) #[] #[], .func (.func 108) #[] #[]] 150)
  rw [← hW2] at A2 TB
  replace SB := keep A2 SB
  replace PB := keep A2 PB
  replace RB := keep A2 RB
  have H := bw_trans BW (bw_trans J A2)
  have hS0 : (fun w' => w'.cell? ⟨w.heap.size, 0, none⟩ = some (.int .i64 ax) ∧ w'.cell? ⟨w.heap.size, 1, none⟩ = some (.int .i64 ay) ∧ w'.cell? ⟨w.heap.size, 2, none⟩ = some (.int .i64 bx) ∧ w'.cell? ⟨w.heap.size, 3, none⟩ = some (.int .i64 b_y) ∧ w'.cell? ⟨w.heap.size + 1, 0, none⟩ = some (.int .i64 px) ∧ w'.cell? ⟨w.heap.size + 1, 1, none⟩ = some (.int .i64 py) ∧ w'.cell? ⟨w1.heap.size, 0, none⟩ = some (.func (.func 106) #[] #[]) ∧ w'.cell? ⟨w1.heap.size, 1, none⟩ = some (.func (.func 107) #[] #[]) ∧ w'.cell? ⟨w1.heap.size, 2, none⟩ = some (.func (.func 108) #[] #[])) W2 := by
    obtain ⟨s0, s1, s2, s3⟩ := blk_4 SB
    obtain ⟨p0, p1⟩ := blk_2 PB
    obtain ⟨t0, t1, t2⟩ := blk_3 TB
    exact ⟨s0, s1, s2, s3, p0, p1, t0, t1, t2⟩
  clear hW hc hf J A2 SB PB TB BW b0 FT hW2
  have hsD : Sent ad W2.drew := h0.below H.drew
  replace H := H.drew
  replace RB : W2.drew.heap[w.heap.size + 2]? = _ := RB
  go_region_held3 (fun w' => w'.cell? ⟨w.heap.size, 0, none⟩ = some (.int .i64 ax) ∧ w'.cell? ⟨w.heap.size, 1, none⟩ = some (.int .i64 ay) ∧ w'.cell? ⟨w.heap.size, 2, none⟩ = some (.int .i64 bx) ∧ w'.cell? ⟨w.heap.size, 3, none⟩ = some (.int .i64 b_y) ∧ w'.cell? ⟨w.heap.size + 1, 0, none⟩ = some (.int .i64 px) ∧ w'.cell? ⟨w.heap.size + 1, 1, none⟩ = some (.int .i64 py) ∧ w'.cell? ⟨w1.heap.size, 0, none⟩ = some (.func (.func 106) #[] #[]) ∧ w'.cell? ⟨w1.heap.size, 1, none⟩ = some (.func (.func 107) #[] #[]) ∧ w'.cell? ⟨w1.heap.size, 2, none⟩ = some (.func (.func 108) #[] #[])) (first | exact cB9 K (by assumption) | exact hS0 | exact cS9 (by assumption) (by dsimp only; omega) (by dsimp only; omega) (by dsimp only; omega) (by dsimp only; omega) (by dsimp only; omega) (by dsimp only; omega) (by dsimp only; omega) (by dsimp only; omega) (by dsimp only; omega)) (first | (go_at_call 109; refine (WH.out _).mono ?_; rintro e w2 ⟨rfl, K⟩; have hs2 := hsD.below K; replace H := bw_trans H K; replace RB := keep K RB) | (go_at_call 108; refine (FA.out _ hs2).mono ?_; rintro e w3 ⟨rfl, K⟩; replace H := bw_trans H K; replace RB := keep K RB; obtain ⟨q0, q1, qf0, qf1⟩ := blkF RB))
  have HB : Hid _ := H
  have zz := blk_lt RB
  have R2 := setF2 RB (u0 := .int .i64 (dt bx b_y px py px py)) (u1 := .int .i64 1)
  obtain ⟨r0, r1⟩ := blk_2 R2
  clear H RB R2
  go_wp2_with fail
  exact bodyPost_ret (v := .agg #[.int .i64 (dt bx b_y px py px py), .int .i64 1]) (by simp [results, Tryz.results71, go_sem, r0, r1]) rfl ⟨rfl, by repeat (first | with_reducible exact HB.out | with_reducible refine bw_set ?_ (by dsimp only; omega) _)⟩
set_option maxHeartbeats 2000000 in
theorem segFar_line (ax ay bx b_y px py : Int) (ad : Addr) (w : World) (h0 : Sent ad w) (gs : sgB ax ay bx b_y = true) (gp : ptB px py = true) (h : ¬ dt ax ay bx b_y px py ≤ 0) (h2 : ¬ dt bx b_y ax ay px py ≤ 0) :
    Calls Tryz.prog 71 #[.agg #[.int .i64 ax, .int .i64 ay, .int .i64 bx, .int .i64 b_y], .agg #[.int .i64 px, .int .i64 py]] w fun e w' => e = .returned (.agg #[.int .i64 (ofN (crs ax ay bx b_y px py * crs ax ay bx b_y px py) (dt ax ay bx b_y bx b_y)), .int .i64 (ofD (crs ax ay bx b_y px py * crs ax ay bx b_y px py) (dt ax ay bx b_y bx b_y))]) ∧ Below w.heap.size w w' := by
  have b0 : Below w.heap.size w (((w.alloc (.cells #[.int .i64 ax, .int .i64 ay, .int .i64 bx, .int .i64 b_y] 62)).alloc (.cells #[.int .i64 px, .int .i64 py] 35)).alloc (.cells #[.int .i64 0, .int .i64 0] 47)) := (by repeat (first | exact bw_refl _ | assumption | apply bw_drewN | apply bw_drew | apply bw_alloc | refine bw_set ?_ (by simp) _))
  obtain ⟨W, hW, BW, SB, PB, RB⟩ := boxes3 w (.cells #[.int .i64 ax, .int .i64 ay, .int .i64 bx, .int .i64 b_y] 62) (.cells #[.int .i64 px, .int .i64 py] 35) (.cells #[.int .i64 0, .int .i64 0] 47)
  have WH : Hid (∀ w, Calls Tryz.prog 109 #[.agg #[.int .i64 ax, .int .i64 ay, .int .i64 bx, .int .i64 b_y], .agg #[.int .i64 px, .int .i64 py]] w fun e w' => e = .returned (.int .i64 1) ∧ Below w.heap.size w w') := fun w => where_line ax ay bx b_y px py w gs gp h h2
  have FA : Hid (∀ w, Sent ad w → _) := fun w hs => farLine_ok ax ay bx b_y px py ad w hs gs gp
  clear h h2
  go_enter Tryz.func71, Tryz.ntmps71
  go_wp2_with fail
  refine (segOk_any _ _ _ _ _).mono ?_
  rw [gs]
  rintro e w1 ⟨rfl, J⟩
  obtain ⟨hc, hf⟩ := bcell J
  go_wp2_with fail
  refine (ptOk_any _ _ _).mono ?_
  rw [gp]
  rintro e w1 ⟨rfl, J2⟩
  replace J := bw_trans J J2
  clear hc hf J2
  obtain ⟨hc, hf⟩ := bcell J
  go_upto_region 4 with fail
  have FT : Hid (∃ W2, W2 = w1.alloc (.cells #[.func (.func 106) #[] #[], .func (.func 107) #[] #[], .func (.func 108) #[] #[]] 150)) := ⟨_, rfl⟩
  obtain ⟨W2, hW2⟩ := FT.out
  rw [← hW2]
  rw [← hW] at J
  replace SB := keep J SB
  replace PB := keep J PB
  replace RB := keep J RB
  have zr := blk_lt RB
  have nz : w1.heap.size < W2.heap.size := by rw [hW2]; simp
  have A2 := bw_alloc (bw_refl w1) (.cells #[.func (.func 106) #[] #[], .func (.func 107) #[] #[], .func (.func 108) #[] #[]] 150)
  have TB := heap_new w1 (.cells #[.func (.func 106) #[] #[], .func (.func 107) #[] #[], .func (.func 108) #[] #[]] 150)
  rw [← hW2] at A2 TB
  replace SB := keep A2 SB
  replace PB := keep A2 PB
  replace RB := keep A2 RB
  have H := bw_trans BW (bw_trans J A2)
  have hS0 : (fun w' => w'.cell? ⟨w.heap.size, 0, none⟩ = some (.int .i64 ax) ∧ w'.cell? ⟨w.heap.size, 1, none⟩ = some (.int .i64 ay) ∧ w'.cell? ⟨w.heap.size, 2, none⟩ = some (.int .i64 bx) ∧ w'.cell? ⟨w.heap.size, 3, none⟩ = some (.int .i64 b_y) ∧ w'.cell? ⟨w.heap.size + 1, 0, none⟩ = some (.int .i64 px) ∧ w'.cell? ⟨w.heap.size + 1, 1, none⟩ = some (.int .i64 py) ∧ w'.cell? ⟨w1.heap.size, 0, none⟩ = some (.func (.func 106) #[] #[]) ∧ w'.cell? ⟨w1.heap.size, 1, none⟩ = some (.func (.func 107) #[] #[]) ∧ w'.cell? ⟨w1.heap.size, 2, none⟩ = some (.func (.func 108) #[] #[])) W2 := by
    obtain ⟨s0, s1, s2, s3⟩ := blk_4 SB
    obtain ⟨p0, p1⟩ := blk_2 PB
    obtain ⟨t0, t1, t2⟩ := blk_3 TB
    exact ⟨s0, s1, s2, s3, p0, p1, t0, t1, t2⟩
  clear hW hc hf J A2 SB PB TB BW b0 FT hW2
  have hsD : Sent ad W2.drew := h0.below H.drew
  replace H := H.drew
  replace RB : W2.drew.heap[w.heap.size + 2]? = _ := RB
  go_region_held3 (fun w' => w'.cell? ⟨w.heap.size, 0, none⟩ = some (.int .i64 ax) ∧ w'.cell? ⟨w.heap.size, 1, none⟩ = some (.int .i64 ay) ∧ w'.cell? ⟨w.heap.size, 2, none⟩ = some (.int .i64 bx) ∧ w'.cell? ⟨w.heap.size, 3, none⟩ = some (.int .i64 b_y) ∧ w'.cell? ⟨w.heap.size + 1, 0, none⟩ = some (.int .i64 px) ∧ w'.cell? ⟨w.heap.size + 1, 1, none⟩ = some (.int .i64 py) ∧ w'.cell? ⟨w1.heap.size, 0, none⟩ = some (.func (.func 106) #[] #[]) ∧ w'.cell? ⟨w1.heap.size, 1, none⟩ = some (.func (.func 107) #[] #[]) ∧ w'.cell? ⟨w1.heap.size, 2, none⟩ = some (.func (.func 108) #[] #[])) (first | exact cB9 K (by assumption) | exact hS0 | exact cS9 (by assumption) (by dsimp only; omega) (by dsimp only; omega) (by dsimp only; omega) (by dsimp only; omega) (by dsimp only; omega) (by dsimp only; omega) (by dsimp only; omega) (by dsimp only; omega) (by dsimp only; omega)) (first | (go_at_call 109; refine (WH.out _).mono ?_; rintro e w2 ⟨rfl, K⟩; have hs2 := hsD.below K; replace H := bw_trans H K; replace RB := keep K RB) | (go_at_call 107; refine (FA.out _ hs2).mono ?_; rintro e w3 ⟨rfl, K⟩; replace H := bw_trans H K; replace RB := keep K RB; obtain ⟨q0, q1, qf0, qf1⟩ := blkF RB))
  have HB : Hid _ := H
  have zz := blk_lt RB
  have R2 := setF2 RB (u0 := .int .i64 (ofN (crs ax ay bx b_y px py * crs ax ay bx b_y px py) (dt ax ay bx b_y bx b_y))) (u1 := .int .i64 (ofD (crs ax ay bx b_y px py * crs ax ay bx b_y px py) (dt ax ay bx b_y bx b_y)))
  obtain ⟨r0, r1⟩ := blk_2 R2
  clear H RB R2
  go_wp2_with fail
  exact bodyPost_ret (v := .agg #[.int .i64 (ofN (crs ax ay bx b_y px py * crs ax ay bx b_y px py) (dt ax ay bx b_y bx b_y)), .int .i64 (ofD (crs ax ay bx b_y px py * crs ax ay bx b_y px py) (dt ax ay bx b_y bx b_y))]) (by simp [results, Tryz.results71, go_sem, r0, r1]) rfl ⟨rfl, by repeat (first | with_reducible exact HB.out | with_reducible refine bw_set ?_ (by dsimp only; omega) _)⟩
theorem segFar_ok (ax ay bx b_y px py : Int) (ad : Addr) (w : World) (h0 : Sent ad w) (gs : sgB ax ay bx b_y = true) (gp : ptB px py = true) :
    Calls Tryz.prog 71 #[.agg #[.int .i64 ax, .int .i64 ay, .int .i64 bx, .int .i64 b_y], .agg #[.int .i64 px, .int .i64 py]] w fun e w' => e = .returned (.agg #[.int .i64 (far ax ay bx b_y px py).1, .int .i64 (far ax ay bx b_y px py).2]) ∧ Below w.heap.size w w' := by
  unfold far
  by_cases h : dt ax ay bx b_y px py ≤ 0
  · rw [if_pos h]; exact segFar_first _ _ _ _ _ _ ad w h0 gs gp h
  · rw [if_neg h]
    by_cases h2 : dt bx b_y ax ay px py ≤ 0
    · rw [if_pos h2]; exact segFar_last _ _ _ _ _ _ ad w h0 gs gp h h2
    · rw [if_neg h2]; exact segFar_line _ _ _ _ _ _ ad w h0 gs gp h h2
theorem segFar_any (ax ay bx b_y px py : Int) (ad : Addr) (w : World) (h0 : Sent ad w) :
    Calls Tryz.prog 71 #[.agg #[.int .i64 ax, .int .i64 ay, .int .i64 bx, .int .i64 b_y], .agg #[.int .i64 px, .int .i64 py]] w fun e w' => e = .returned (.agg #[.int .i64 (farV ax ay bx b_y px py).1, .int .i64 (farV ax ay bx b_y px py).2]) ∧ Below w.heap.size w w' := by
  cases gs : sgB ax ay bx b_y
  · have e : farV ax ay bx b_y px py = (0, 0) := by unfold farV; rw [gs]; rfl
    rw [e]; exact segFar_no _ _ _ _ _ _ w (.inl gs)
  · cases gp : ptB px py
    · have e : farV ax ay bx b_y px py = (0, 0) := by unfold farV; rw [gs, gp]; rfl
      rw [e]; exact segFar_no _ _ _ _ _ _ w (.inr ⟨gs, gp⟩)
    · rw [farV_ok gs gp]; exact segFar_ok _ _ _ _ _ _ ad w h0 gs gp
end Go.Proofs.YtmdjhoknlplecaaGreatDoor
namespace Go.Proofs.YtmdjhoknlplecaaGreatDoor
open Go.RowKit Go.Shelf Go.Sort
attribute [local go_sem] Oper.semAt_some

theorem Tryz.infoFrac : (Tryz.prog.info? 47).map (fun i => (i.zero, i.size, i.bytes)) = some (some (.agg #[.int .i64 0, .int .i64 0]), 2, 16) := by kernel_rfl
/-- How far a point is from a segment. -/
def farS (p : P2) (s : P2 × P2) : Int × Int := farV s.1.1 s.1.2 s.2.1 s.2.2 p.1 p.2
def frCells (fs : List (Int × Int)) : List Value := fs.flatMap fun f => [.int .i64 f.1, .int .i64 f.2]
theorem frCells_snoc (fs : List (Int × Int)) (f : Int × Int) : frCells (fs ++ [f]) = frCells fs ++ [.int .i64 f.1, .int .i64 f.2] := by simp [frCells]
set_option maxRecDepth 100000 in
set_option maxHeartbeats 4000000 in
theorem fars_in (n : Nat) (hn : 12 ≤ n) (b : Nat) (rs : List RingT) (p : P2) (ad : Addr) (w : World) (h0 : Sent ad w) (hR : RingN w.heap.size w (some ⟨b, 0, none⟩) rs) (hes : (edgR rs).length ≤ 1000) :
    CallsIn Fence.wide n Tryz.prog 100 #[.pointer (some ⟨b, 0, none⟩), .agg #[.int .i64 p.1, .int .i64 p.2]] w fun e W' => ∃ v, e = .returned v ∧ W'.ownsRow w.heap.size 47 2 v (edgR rs).length (frCells ((edgR rs).map (farS p))) ∧ Below w.heap.size w W' := by
  obtain ⟨i0, hi0, hz0, hz1, hz2⟩ := info_parts Tryz.infoFrac
  have h1 : 1 ≤ n := by omega
  have hmx : Tryz.prog.follows .mixedOrders = true := by kernel_rfl
  refine callsIn_of_wp_marks Tryz.func100 rfl trivial ?_ rfl
  simp only [Tryz.ntmps100, List.size_toArray, List.length_cons, List.length_nil, Nat.reduceAdd, Nat.reduceSub, Array.replicate_succ, Array.replicate_zero, List.push_toArray, List.append_toArray, List.nil_append, List.cons_append]
  gi_wp2_with (refine ⟨trivial, ?_⟩; gi_at_call 66; refine (ringEdges_in (n - 1) _ _).mono ?_; rintro e w' ⟨rfl, rfl⟩)
  have Q0 := ((Lies.new' w w.heap.size rfl #[.int .i64 p.1, .int .i64 p.2] 35).alloc (.cells #[.slice none 0 0] 143)).alloc (.cells #[.pointer (some ⟨b, 0, none⟩)] 110)
  have M := (Lies.new' (w.alloc (.cells #[.int .i64 p.1, .int .i64 p.2] 35)) (w.heap.size + 1) (by simp) #[.slice none 0 0] 143).alloc (.cells #[.pointer (some ⟨b, 0, none⟩)] 110)
  have L1 := Lies.new' ((w.alloc (.cells #[.int .i64 p.1, .int .i64 p.2] 35)).alloc (.cells #[.slice none 0 0] 143)) (w.heap.size + 1 + 1) (by simp) #[.pointer (some ⟨b, 0, none⟩)] 110
  have hB0 : Below w.heap.size w (((w.alloc (.cells #[.int .i64 p.1, .int .i64 p.2] 35)).alloc (.cells #[.slice none 0 0] 143)).alloc (.cells #[.pointer (some ⟨b, 0, none⟩)] 110)) := (by repeat (first | exact bw_refl _ | assumption | apply bw_drewN | apply bw_drew | apply bw_alloc | refine bw_set ?_ (by simp) _))
  have hsz : (((w.alloc (.cells #[.int .i64 p.1, .int .i64 p.2] 35)).alloc (.cells #[.slice none 0 0] 143)).alloc (.cells #[.pointer (some ⟨b, 0, none⟩)] 110)).heap.size = w.heap.size + 3 := by simp
  obtain ⟨W0, hW0⟩ : ∃ W0, ((w.alloc (.cells #[.int .i64 p.1, .int .i64 p.2] 35)).alloc (.cells #[.slice none 0 0] 143)).alloc (.cells #[.pointer (some ⟨b, 0, none⟩)] 110) = W0 := ⟨_, rfl⟩
  rw [hW0] at Q0 M L1 hB0 hsz ⊢
  clear hW0
  have hseq := ringE_seq (n - 1) (by omega) (w.heap.size + 1 + 1) w.heap.size (some ⟨b, 0, none⟩) rs W0 L1.c1 (by omega) (hR.keep hB0)
  refine wpIn_rangeO rfl h1 (gf := 102) (lb := #[.pointer (some ⟨w.heap.size + 1 + 1, 0, none⟩)]) rfl trivial (enters_of Tryz.func102 (by kernel_rfl) rfl)
    hseq KT_t (KT_b (by omega)) (Below.refl _ _) (fun _ => rfl)
    (fun pre W => ((∃ vv, Boxed W (w.heap.size + 1) 143 vv ∧ W.ownsRow w.heap.size 47 2 vv pre.length (frCells (pre.map (farS p))) ∧ True) ∧ Lies w.heap.size #[.int .i64 p.1, .int .i64 p.2] 35 W) ∧ Below w.heap.size w W)
    (OwnFrom.and (OwnFrom.and (Own.from (holdsRow_own w.heap.size (w.heap.size + 1) 143 47 2 (fun pre : List (P2 × P2) => pre.length) (fun pre => frCells (pre.map (farS p))) (fun _ _ => True)) _) (lies_from _ _ _ _)) (ownFrom_below (Nat.le_refl _) (by omega)))
    ⟨⟨⟨_, M, ⟨rfl, .inl ⟨rfl, rfl⟩⟩, trivial⟩, Q0⟩, hB0⟩
    (fun x a' W => ∃ Bx, w.heap.size + 1 < Bx ∧ Lies Bx #[.int .i64 x.1.1, .int .i64 x.1.2, .int .i64 x.2.1, .int .i64 x.2.2] 62 W ∧ a' = { tmps := #[.pointer (some ⟨b, 0, none⟩), .agg #[.int .i64 p.1, .int .i64 p.2], undef, .pointer (some ⟨w.heap.size, 0, none⟩), .slice none 0 0, .pointer (some ⟨w.heap.size + 1, 0, none⟩), .pointer (some ⟨Bx, 0, none⟩), .pointer (some ⟨b, 0, none⟩), .pointer (some ⟨b, 0, none⟩), .pointer (some ⟨b, 0, none⟩), .func (.func 102) #[] #[.pointer (some ⟨w.heap.size + 1 + 1, 0, none⟩)], .agg #[.int .i64 x.1.1, .int .i64 x.1.2, .int .i64 x.2.1, .int .i64 x.2.2], undef, undef, undef, undef, undef, undef, undef], defers := [] })
    (fun x a' _ X Y row hs hg hr => by obtain ⟨Bx, e1, e2, e3⟩ := hs; exact ⟨Bx, e1, lies_own (β := Unit) Bx _ _ () X Y row e2 hg (fun r e => (hr r e).2), e3⟩)
    ?assign ?body ?done
  case assign =>
    rintro l pre x W K ⟨⟨⟨vv, M0, hr0, _⟩, A0⟩, hB1⟩ hK
    unfold segE
    have zA := A0.lt
    have zM : w.heap.size + 1 < W.heap.size := (Array.getElem?_eq_some_iff.1 (show W.heap[w.heap.size + 1]? = _ from M0)).1
    have hB3 : Below W.heap.size W (W.alloc (.cells #[.int .i64 x.1.1, .int .i64 x.1.2, .int .i64 x.2.1, .int .i64 x.2.2] 62)) := (by repeat (first | exact bw_refl _ | assumption | apply bw_drewN | apply bw_drew | apply bw_alloc | refine bw_set ?_ (by simp) _))
    gi_wp2
    exact hK _ _ ((KeepsOthers.alloc _ _).from _) (KT.of_below hB3 hB1.size) ⟨⟨⟨vv, M0.alloc _, hr0.alloc _, trivial⟩, A0.alloc _⟩, hB1.alloc hB1.size _⟩ ⟨W.heap.size, zM, Lies.new W _ _, rfl⟩
  case body =>
    rintro l pre x a' W hl2 ⟨⟨⟨vv, M0, hr0, _⟩, A0⟩, hB1⟩ ⟨Bx, hBx, bX, rfl⟩ hlt
    have c0 := M0.cell
    obtain ⟨cx0, cx1, cx2, cx3⟩ := bX.c4
    obtain ⟨a0, a1⟩ := blk_2 A0
    have hzW := hB1.size
    have hX := segFar_any x.1.1 x.1.2 x.2.1 x.2.2 p.1 p.2 ad W.drew (h0.below hB1.drew)
    obtain ⟨f, hf⟩ : ∃ f, farS p x = f := ⟨_, rfl⟩
    rw [show farV x.1.1 x.1.2 x.2.1 x.2.2 p.1 p.2 = f from hf] at hX
    have Hf : Hid (farS p x = f) := hf
    clear hf
    have hmax : pre.length + 1 ≤ maxLen := by simp [maxLen]; omega
    have zA := A0.lt
    have zBx := bX.lt
    have zM : w.heap.size + 1 < W.heap.size := (Array.getElem?_eq_some_iff.1 (show W.heap[w.heap.size + 1]? = _ from M0)).1
    gi_wp2
    refine wpIn_round_held (S := (fun w' : World => (w'.cell? ⟨Bx, 0, none⟩ = some (.int .i64 x.1.1) ∧ w'.cell? ⟨Bx, 1, none⟩ = some (.int .i64 x.1.2) ∧ w'.cell? ⟨Bx, 2, none⟩ = some (.int .i64 x.2.1) ∧ w'.cell? ⟨Bx, 3, none⟩ = some (.int .i64 x.2.2)) ∧ w'.cell? ⟨w.heap.size, 0, none⟩ = some (.int .i64 p.1) ∧ w'.cell? ⟨w.heap.size, 1, none⟩ = some (.int .i64 p.2))) hmx (by kernel_rfl) (by rintro ⟨_, _, h⟩; exact h) ?_
    have hS0 : (fun w' : World => (w'.cell? ⟨Bx, 0, none⟩ = some (.int .i64 x.1.1) ∧ w'.cell? ⟨Bx, 1, none⟩ = some (.int .i64 x.1.2) ∧ w'.cell? ⟨Bx, 2, none⟩ = some (.int .i64 x.2.1) ∧ w'.cell? ⟨Bx, 3, none⟩ = some (.int .i64 x.2.2)) ∧ w'.cell? ⟨w.heap.size, 0, none⟩ = some (.int .i64 p.1) ∧ w'.cell? ⟨w.heap.size, 1, none⟩ = some (.int .i64 p.2)) W.drew := ⟨⟨cx0, cx1, cx2, cx3⟩, a0, a1⟩
    refine wpAnyH_take (i := 1) (v := .agg #[.int .i64 x.1.1, .int .i64 x.1.2, .int .i64 x.2.1, .int .i64 x.2.2]) rfl (by kernel_rfl) (by kernel_rfl) (by kernel_rfl) (fun _ _ _ h => h) (Or.inl ⟨by rfl, by rintro w' ⟨⟨s1, s2, s3, s4⟩, s5, s6⟩; go_simp⟩) hS0 ?_
    refine wpAnyH_take (i := 2) (v := .agg #[.int .i64 p.1, .int .i64 p.2]) rfl (by kernel_rfl) (by kernel_rfl) (by kernel_rfl) (fun _ _ _ h => h) (Or.inl ⟨by rfl, by rintro w' ⟨⟨s1, s2, s3, s4⟩, s5, s6⟩; go_simp⟩) hS0 ?_
    refine wpAnyH_all (rs := [0, 3]) (by kernel_rfl) (by simp) ?_
    intro i hi
    have hi' : i = 0 ∨ i = 3 := by simpa using hi
    clear hi
    rcases hi' with rfl | rfl
    · skip
      refine YieldsIf.wpOp (S := fun w' => w' = W.drew) (v := vv) rfl (Or.inl ⟨by rfl, by rintro w' rfl; go_simp⟩) rfl ⟨hS0, ?_⟩
      refine wpAnyH_all (rs := [3]) (by kernel_rfl) (by simp) ?_
      intro i hi
      obtain rfl : i = 3 := by simpa using hi
      refine wpOp_now rfl (by rfl) ?_
      go_simp
      refine hX.mono ?_
      rintro e w3 ⟨rfl, J3⟩
      have M3 : Boxed w3 (w.heap.size + 1) 143 vv := (J3.block (w.heap.size + 1) zM).trans M0
      have hr3 : w3.ownsRow w.heap.size 47 2 vv pre.length (frCells (pre.map (farS p))) := (hr0.kept (w' := W.drew) (row := none) ⟨rfl, rfl, rfl, Nat.le_refl _, fun _ _ _ => rfl⟩ (Classical.em _)).kept (w' := w3) (row := none) ⟨J3.os, J3.tape, J3.output, J3.size, fun j hj _ => J3.block j hj⟩ (Classical.em _)
      have A3 : Lies w.heap.size #[.int .i64 p.1, .int .i64 p.2] 35 w3 := (J3.block w.heap.size zA).trans A0
      have b3 : Lies Bx #[.int .i64 x.1.1, .int .i64 x.1.2, .int .i64 x.2.1, .int .i64 x.2.2] 62 w3 := (J3.block Bx zBx).trans bX
      have z3 : W.heap.size ≤ w3.heap.size := J3.size
      have hS3 : (fun w' : World => (w'.cell? ⟨Bx, 0, none⟩ = some (.int .i64 x.1.1) ∧ w'.cell? ⟨Bx, 1, none⟩ = some (.int .i64 x.1.2) ∧ w'.cell? ⟨Bx, 2, none⟩ = some (.int .i64 x.2.1) ∧ w'.cell? ⟨Bx, 3, none⟩ = some (.int .i64 x.2.2)) ∧ w'.cell? ⟨w.heap.size, 0, none⟩ = some (.int .i64 p.1) ∧ w'.cell? ⟨w.heap.size, 1, none⟩ = some (.int .i64 p.2)) w3 := ⟨b3.c4, blk_2 A3⟩
      have cm3 := M3.cell
      refine ⟨hS3, ?_⟩
      refine wpAnyH_all (rs := [4]) (by kernel_rfl) (by simp) ?_
      intro i hi
      obtain rfl : i = 4 := by simpa using hi
      have B34 : Below w3.heap.size w3 (w3.alloc (.cells #[.int .i64 f.1, .int .i64 f.2] 47)) := (by repeat (first | exact bw_refl _ | assumption | apply bw_drewN | apply bw_drew | apply bw_alloc | refine bw_set ?_ (by simp) _))
      have hS4 : (fun w' : World => (w'.cell? ⟨Bx, 0, none⟩ = some (.int .i64 x.1.1) ∧ w'.cell? ⟨Bx, 1, none⟩ = some (.int .i64 x.1.2) ∧ w'.cell? ⟨Bx, 2, none⟩ = some (.int .i64 x.2.1) ∧ w'.cell? ⟨Bx, 3, none⟩ = some (.int .i64 x.2.2)) ∧ w'.cell? ⟨w.heap.size, 0, none⟩ = some (.int .i64 p.1) ∧ w'.cell? ⟨w.heap.size, 1, none⟩ = some (.int .i64 p.2)) (w3.alloc (.cells #[.int .i64 f.1, .int .i64 f.2] 47)) := ⟨(b3.below B34).c4, blk_2 (A3.below B34)⟩
      refine wpOp_now rfl (by rfl) ?_
      go_simp
      refine wpAnyH_all (rs := [5]) (by kernel_rfl) (by simp) ?_
      intro i hi
      obtain rfl : i = 5 := by simpa using hi
      refine wpOp_now rfl (by rfl) ?_
      refine wp_append_lies _ _ _ _ (by rfl) w.heap.size 47 i0 _ 2 16 Tryz.underlying143 hi0 hz0 hz1 hz2 rfl (by omega) _ pre.length _ (by rfl) (hr3.alloc _) ⟨w3.heap.size, 0, none⟩ 1 1 [.int .i64 f.1, .int .i64 f.2] (by rfl) (by rfl) (World.news_of_block (cs := #[.int .i64 f.1, .int .i64 f.2]) (t := 47) (fr := (0, 0)) (heap_alloc_new w3 _)) (by simp [Value.oneCell']) (by omega) hmax (by omega) (by simp; omega) (w3.heap.size + 1) (by simp) ?_
      intro gg cg w5 hown5 hgr5 hat5 hlt5
      obtain ⟨hv1, hv2, hr2, hk2, hb2⟩ := M3.appended (by decide) hr3 (by omega) (by omega) hown5 hgr5
      have hne : ∀ (k : Nat) (cs : Array Value) (t : TypeId), t ≠ 47 → w3.heap[k]? = some (.cells cs t (0, 0)) → w5.heap[k]? = some (.cells cs t (0, 0)) := fun k cs t ht h => by
        refine (hgr5.block k (by have := (Array.getElem?_eq_some_iff.1 h).1; simp; omega) (fun e => ?_)).trans ((B34.block k (Array.getElem?_eq_some_iff.1 h).1).trans h)
        rcases hr3.2 with ⟨e1, _⟩ | ⟨g0, c0', cur0, e1, _, hg0, _⟩
        · subst e1; cases e
        · subst e1
          have e' : k = g0 := Option.some.inj e
          rw [e', hg0] at h; cases h; exact ht rfl
      have A5 : Lies w.heap.size #[.int .i64 p.1, .int .i64 p.2] 35 w5 := hne _ _ _ (by decide) A3
      have b5 : Lies Bx #[.int .i64 x.1.1, .int .i64 x.1.2, .int .i64 x.2.1, .int .i64 x.2.2] 62 w5 := hne _ _ _ (by decide) b3
      have hS5 : (fun w' : World => (w'.cell? ⟨Bx, 0, none⟩ = some (.int .i64 x.1.1) ∧ w'.cell? ⟨Bx, 1, none⟩ = some (.int .i64 x.1.2) ∧ w'.cell? ⟨Bx, 2, none⟩ = some (.int .i64 x.2.1) ∧ w'.cell? ⟨Bx, 3, none⟩ = some (.int .i64 x.2.2)) ∧ w'.cell? ⟨w.heap.size, 0, none⟩ = some (.int .i64 p.1) ∧ w'.cell? ⟨w.heap.size, 1, none⟩ = some (.int .i64 p.2)) w5 := ⟨b5.c4, blk_2 A5⟩
      refine ⟨hS5, ?_⟩
      simp only [Act.put, List.setIfInBounds_toArray]
      refine wpAnyH_all (rs := [6]) (by kernel_rfl) (by simp) ?_
      intro i hi
      obtain rfl : i = 6 := by simpa using hi
      have hc1 := hv1.cell
      have hf1 := hv1.frozen
      refine wpOp_now rfl (by rfl) ?_
      go_simp
      refine wpAnyH_done (by kernel_rfl) ?_ _
      have BWX : Below w.heap.size W (w5.setCell ⟨w.heap.size + 1, 0, none⟩ (.slice (some ⟨gg, 0, none⟩) (pre.length + 1) cg)) := ((Below.refl _ W).drew.trans (J3.mono hzW)).trans hb2
      refine ⟨(((KeepsOthers.drew _).trans (KeepsOthers.of_below J3)).trans hk2).from _, ⟨BWX, fun k cs t ht h => ?_⟩, ⟨⟨_, hv2, ?_, trivial⟩, ?_⟩, hB1.trans BWX⟩
      · have h3 : w3.heap[k]? = some (.cells cs t (0, 0)) := (J3.block k (Array.getElem?_eq_some_iff.1 h).1).trans h
        refine (Below.heap_setCell _ _ _ k (fun e => ?_)).trans (hne k cs t (by rcases ht with rfl | rfl <;> decide) h3)
        have e' : k = w.heap.size + 1 := e
        rw [e', show W.heap[w.heap.size + 1]? = _ from M0] at h
        rcases ht with rfl | rfl <;> simp at h
      · rw [List.map_append, List.map_cons, List.map_nil, Hf.out, frCells_snoc, List.length_append, List.length_singleton]; exact hr2
      · exact (Below.heap_setCell _ _ _ w.heap.size (fun e => by have e' : w.heap.size = w.heap.size + 1 := e; omega)).trans A5
    · skip
      refine wpOp_now rfl (by rfl) ?_
      go_simp
      refine hX.mono ?_
      rintro e w3 ⟨rfl, J3⟩
      have M3 : Boxed w3 (w.heap.size + 1) 143 vv := (J3.block (w.heap.size + 1) zM).trans M0
      have hr3 : w3.ownsRow w.heap.size 47 2 vv pre.length (frCells (pre.map (farS p))) := (hr0.kept (w' := W.drew) (row := none) ⟨rfl, rfl, rfl, Nat.le_refl _, fun _ _ _ => rfl⟩ (Classical.em _)).kept (w' := w3) (row := none) ⟨J3.os, J3.tape, J3.output, J3.size, fun j hj _ => J3.block j hj⟩ (Classical.em _)
      have A3 : Lies w.heap.size #[.int .i64 p.1, .int .i64 p.2] 35 w3 := (J3.block w.heap.size zA).trans A0
      have b3 : Lies Bx #[.int .i64 x.1.1, .int .i64 x.1.2, .int .i64 x.2.1, .int .i64 x.2.2] 62 w3 := (J3.block Bx zBx).trans bX
      have z3 : W.heap.size ≤ w3.heap.size := J3.size
      have hS3 : (fun w' : World => (w'.cell? ⟨Bx, 0, none⟩ = some (.int .i64 x.1.1) ∧ w'.cell? ⟨Bx, 1, none⟩ = some (.int .i64 x.1.2) ∧ w'.cell? ⟨Bx, 2, none⟩ = some (.int .i64 x.2.1) ∧ w'.cell? ⟨Bx, 3, none⟩ = some (.int .i64 x.2.2)) ∧ w'.cell? ⟨w.heap.size, 0, none⟩ = some (.int .i64 p.1) ∧ w'.cell? ⟨w.heap.size, 1, none⟩ = some (.int .i64 p.2)) w3 := ⟨b3.c4, blk_2 A3⟩
      have cm3 := M3.cell
      refine ⟨hS3, ?_⟩
      refine wpAnyH_all (rs := [0, 4]) (by kernel_rfl) (by simp) ?_
      intro i hi
      have hi' : i = 0 ∨ i = 4 := by simpa using hi
      clear hi
      rcases hi' with rfl | rfl
      · skip
        refine YieldsIf.wpOp (S := fun w' => w' = w3) (v := vv) rfl (Or.inl ⟨by rfl, by rintro w' rfl; go_simp⟩) rfl ⟨hS3, ?_⟩
        refine wpAnyH_all (rs := [4]) (by kernel_rfl) (by simp) ?_
        intro i hi
        obtain rfl : i = 4 := by simpa using hi
        have B34 : Below w3.heap.size w3 (w3.alloc (.cells #[.int .i64 f.1, .int .i64 f.2] 47)) := (by repeat (first | exact bw_refl _ | assumption | apply bw_drewN | apply bw_drew | apply bw_alloc | refine bw_set ?_ (by simp) _))
        have hS4 : (fun w' : World => (w'.cell? ⟨Bx, 0, none⟩ = some (.int .i64 x.1.1) ∧ w'.cell? ⟨Bx, 1, none⟩ = some (.int .i64 x.1.2) ∧ w'.cell? ⟨Bx, 2, none⟩ = some (.int .i64 x.2.1) ∧ w'.cell? ⟨Bx, 3, none⟩ = some (.int .i64 x.2.2)) ∧ w'.cell? ⟨w.heap.size, 0, none⟩ = some (.int .i64 p.1) ∧ w'.cell? ⟨w.heap.size, 1, none⟩ = some (.int .i64 p.2)) (w3.alloc (.cells #[.int .i64 f.1, .int .i64 f.2] 47)) := ⟨(b3.below B34).c4, blk_2 (A3.below B34)⟩
        refine wpOp_now rfl (by rfl) ?_
        go_simp
        refine wpAnyH_all (rs := [5]) (by kernel_rfl) (by simp) ?_
        intro i hi
        obtain rfl : i = 5 := by simpa using hi
        refine wpOp_now rfl (by rfl) ?_
        refine wp_append_lies _ _ _ _ (by rfl) w.heap.size 47 i0 _ 2 16 Tryz.underlying143 hi0 hz0 hz1 hz2 rfl (by omega) _ pre.length _ (by rfl) (hr3.alloc _) ⟨w3.heap.size, 0, none⟩ 1 1 [.int .i64 f.1, .int .i64 f.2] (by rfl) (by rfl) (World.news_of_block (cs := #[.int .i64 f.1, .int .i64 f.2]) (t := 47) (fr := (0, 0)) (heap_alloc_new w3 _)) (by simp [Value.oneCell']) (by omega) hmax (by omega) (by simp; omega) (w3.heap.size + 1) (by simp) ?_
        intro gg cg w5 hown5 hgr5 hat5 hlt5
        obtain ⟨hv1, hv2, hr2, hk2, hb2⟩ := M3.appended (by decide) hr3 (by omega) (by omega) hown5 hgr5
        have hne : ∀ (k : Nat) (cs : Array Value) (t : TypeId), t ≠ 47 → w3.heap[k]? = some (.cells cs t (0, 0)) → w5.heap[k]? = some (.cells cs t (0, 0)) := fun k cs t ht h => by
          refine (hgr5.block k (by have := (Array.getElem?_eq_some_iff.1 h).1; simp; omega) (fun e => ?_)).trans ((B34.block k (Array.getElem?_eq_some_iff.1 h).1).trans h)
          rcases hr3.2 with ⟨e1, _⟩ | ⟨g0, c0', cur0, e1, _, hg0, _⟩
          · subst e1; cases e
          · subst e1
            have e' : k = g0 := Option.some.inj e
            rw [e', hg0] at h; cases h; exact ht rfl
        have A5 : Lies w.heap.size #[.int .i64 p.1, .int .i64 p.2] 35 w5 := hne _ _ _ (by decide) A3
        have b5 : Lies Bx #[.int .i64 x.1.1, .int .i64 x.1.2, .int .i64 x.2.1, .int .i64 x.2.2] 62 w5 := hne _ _ _ (by decide) b3
        have hS5 : (fun w' : World => (w'.cell? ⟨Bx, 0, none⟩ = some (.int .i64 x.1.1) ∧ w'.cell? ⟨Bx, 1, none⟩ = some (.int .i64 x.1.2) ∧ w'.cell? ⟨Bx, 2, none⟩ = some (.int .i64 x.2.1) ∧ w'.cell? ⟨Bx, 3, none⟩ = some (.int .i64 x.2.2)) ∧ w'.cell? ⟨w.heap.size, 0, none⟩ = some (.int .i64 p.1) ∧ w'.cell? ⟨w.heap.size, 1, none⟩ = some (.int .i64 p.2)) w5 := ⟨b5.c4, blk_2 A5⟩
        refine ⟨hS5, ?_⟩
        simp only [Act.put, List.setIfInBounds_toArray]
        refine wpAnyH_all (rs := [6]) (by kernel_rfl) (by simp) ?_
        intro i hi
        obtain rfl : i = 6 := by simpa using hi
        have hc1 := hv1.cell
        have hf1 := hv1.frozen
        refine wpOp_now rfl (by rfl) ?_
        go_simp
        refine wpAnyH_done (by kernel_rfl) ?_ _
        have BWX : Below w.heap.size W (w5.setCell ⟨w.heap.size + 1, 0, none⟩ (.slice (some ⟨gg, 0, none⟩) (pre.length + 1) cg)) := ((Below.refl _ W).drew.trans (J3.mono hzW)).trans hb2
        refine ⟨(((KeepsOthers.drew _).trans (KeepsOthers.of_below J3)).trans hk2).from _, ⟨BWX, fun k cs t ht h => ?_⟩, ⟨⟨_, hv2, ?_, trivial⟩, ?_⟩, hB1.trans BWX⟩
        · have h3 : w3.heap[k]? = some (.cells cs t (0, 0)) := (J3.block k (Array.getElem?_eq_some_iff.1 h).1).trans h
          refine (Below.heap_setCell _ _ _ k (fun e => ?_)).trans (hne k cs t (by rcases ht with rfl | rfl <;> decide) h3)
          have e' : k = w.heap.size + 1 := e
          rw [e', show W.heap[w.heap.size + 1]? = _ from M0] at h
          rcases ht with rfl | rfl <;> simp at h
        · rw [List.map_append, List.map_cons, List.map_nil, Hf.out, frCells_snoc, List.length_append, List.length_singleton]; exact hr2
        · exact (Below.heap_setCell _ _ _ w.heap.size (fun e => by have e' : w.heap.size = w.heap.size + 1 := e; omega)).trans A5
      · skip
        have B34 : Below w3.heap.size w3 (w3.alloc (.cells #[.int .i64 f.1, .int .i64 f.2] 47)) := (by repeat (first | exact bw_refl _ | assumption | apply bw_drewN | apply bw_drew | apply bw_alloc | refine bw_set ?_ (by simp) _))
        have hS4 : (fun w' : World => (w'.cell? ⟨Bx, 0, none⟩ = some (.int .i64 x.1.1) ∧ w'.cell? ⟨Bx, 1, none⟩ = some (.int .i64 x.1.2) ∧ w'.cell? ⟨Bx, 2, none⟩ = some (.int .i64 x.2.1) ∧ w'.cell? ⟨Bx, 3, none⟩ = some (.int .i64 x.2.2)) ∧ w'.cell? ⟨w.heap.size, 0, none⟩ = some (.int .i64 p.1) ∧ w'.cell? ⟨w.heap.size, 1, none⟩ = some (.int .i64 p.2)) (w3.alloc (.cells #[.int .i64 f.1, .int .i64 f.2] 47)) := ⟨(b3.below B34).c4, blk_2 (A3.below B34)⟩
        refine wpOp_now rfl (by rfl) ?_
        go_simp
        have cm4 := (M3.alloc (.cells #[.int .i64 f.1, .int .i64 f.2] 47)).cell
        refine wpAnyH_all (rs := [0]) (by kernel_rfl) (by simp) ?_
        intro i hi
        obtain rfl : i = 0 := by simpa using hi
        refine YieldsIf.wpOp (S := fun w' => w' = w3.alloc (.cells #[.int .i64 f.1, .int .i64 f.2] 47)) (v := vv) rfl (Or.inl ⟨by rfl, by rintro w' rfl; go_simp⟩) rfl ⟨hS4, ?_⟩
        refine wpAnyH_all (rs := [5]) (by kernel_rfl) (by simp) ?_
        intro i hi
        obtain rfl : i = 5 := by simpa using hi
        refine wpOp_now rfl (by rfl) ?_
        refine wp_append_lies _ _ _ _ (by rfl) w.heap.size 47 i0 _ 2 16 Tryz.underlying143 hi0 hz0 hz1 hz2 rfl (by omega) _ pre.length _ (by rfl) (hr3.alloc _) ⟨w3.heap.size, 0, none⟩ 1 1 [.int .i64 f.1, .int .i64 f.2] (by rfl) (by rfl) (World.news_of_block (cs := #[.int .i64 f.1, .int .i64 f.2]) (t := 47) (fr := (0, 0)) (heap_alloc_new w3 _)) (by simp [Value.oneCell']) (by omega) hmax (by omega) (by simp; omega) (w3.heap.size + 1) (by simp) ?_
        intro gg cg w5 hown5 hgr5 hat5 hlt5
        obtain ⟨hv1, hv2, hr2, hk2, hb2⟩ := M3.appended (by decide) hr3 (by omega) (by omega) hown5 hgr5
        have hne : ∀ (k : Nat) (cs : Array Value) (t : TypeId), t ≠ 47 → w3.heap[k]? = some (.cells cs t (0, 0)) → w5.heap[k]? = some (.cells cs t (0, 0)) := fun k cs t ht h => by
          refine (hgr5.block k (by have := (Array.getElem?_eq_some_iff.1 h).1; simp; omega) (fun e => ?_)).trans ((B34.block k (Array.getElem?_eq_some_iff.1 h).1).trans h)
          rcases hr3.2 with ⟨e1, _⟩ | ⟨g0, c0', cur0, e1, _, hg0, _⟩
          · subst e1; cases e
          · subst e1
            have e' : k = g0 := Option.some.inj e
            rw [e', hg0] at h; cases h; exact ht rfl
        have A5 : Lies w.heap.size #[.int .i64 p.1, .int .i64 p.2] 35 w5 := hne _ _ _ (by decide) A3
        have b5 : Lies Bx #[.int .i64 x.1.1, .int .i64 x.1.2, .int .i64 x.2.1, .int .i64 x.2.2] 62 w5 := hne _ _ _ (by decide) b3
        have hS5 : (fun w' : World => (w'.cell? ⟨Bx, 0, none⟩ = some (.int .i64 x.1.1) ∧ w'.cell? ⟨Bx, 1, none⟩ = some (.int .i64 x.1.2) ∧ w'.cell? ⟨Bx, 2, none⟩ = some (.int .i64 x.2.1) ∧ w'.cell? ⟨Bx, 3, none⟩ = some (.int .i64 x.2.2)) ∧ w'.cell? ⟨w.heap.size, 0, none⟩ = some (.int .i64 p.1) ∧ w'.cell? ⟨w.heap.size, 1, none⟩ = some (.int .i64 p.2)) w5 := ⟨b5.c4, blk_2 A5⟩
        refine ⟨hS5, ?_⟩
        simp only [Act.put, List.setIfInBounds_toArray]
        refine wpAnyH_all (rs := [6]) (by kernel_rfl) (by simp) ?_
        intro i hi
        obtain rfl : i = 6 := by simpa using hi
        have hc1 := hv1.cell
        have hf1 := hv1.frozen
        refine wpOp_now rfl (by rfl) ?_
        go_simp
        refine wpAnyH_done (by kernel_rfl) ?_ _
        have BWX : Below w.heap.size W (w5.setCell ⟨w.heap.size + 1, 0, none⟩ (.slice (some ⟨gg, 0, none⟩) (pre.length + 1) cg)) := ((Below.refl _ W).drew.trans (J3.mono hzW)).trans hb2
        refine ⟨(((KeepsOthers.drew _).trans (KeepsOthers.of_below J3)).trans hk2).from _, ⟨BWX, fun k cs t ht h => ?_⟩, ⟨⟨_, hv2, ?_, trivial⟩, ?_⟩, hB1.trans BWX⟩
        · have h3 : w3.heap[k]? = some (.cells cs t (0, 0)) := (J3.block k (Array.getElem?_eq_some_iff.1 h).1).trans h
          refine (Below.heap_setCell _ _ _ k (fun e => ?_)).trans (hne k cs t (by rcases ht with rfl | rfl <;> decide) h3)
          have e' : k = w.heap.size + 1 := e
          rw [e', show W.heap[w.heap.size + 1]? = _ from M0] at h
          rcases ht with rfl | rfl <;> simp at h
        · rw [List.map_append, List.map_cons, List.map_nil, Hf.out, frCells_snoc, List.length_append, List.length_singleton]; exact hr2
        · exact (Below.heap_setCell _ _ _ w.heap.size (fun e => by have e' : w.heap.size = w.heap.size + 1 := e; omega)).trans A5
  case done =>
    rintro D W hD ⟨⟨⟨vv, M0, hr0, _⟩, A0⟩, hB1⟩ hK
    have cR := M0.cell
    gi_wp2
    refine ⟨by simp, .inl ⟨_, _, rfl, run_takeDeferred hK, ?_⟩⟩
    exact ⟨vv, by simp [results, Tryz.results100, go_sem], vv, rfl, ownsRow_putObj hr0 _ hK rfl, hB1.trans (belowK_b (w := w) (Nat.le_refl _) _ D _ _ (by omega) hK rfl rfl)⟩
end Go.Proofs.YtmdjhoknlplecaaGreatDoor
namespace Go.Proofs.YtmdjhoknlplecaaGreatDoor

/-- The least of some fractions. -/
def leastL : List (Int × Int) → Int × Int
  | [] => (0, 0)
  | f :: fs => fs.foldl mn f
/-- It is one of them, and not more than any. -/
structure LeastOf (m : Int × Int) (fs : List (Int × Int)) : Prop where
  mem : m ∈ fs
  le : ∀ f ∈ fs, LeF m f
theorem foldl_mn (fs : List (Int × Int)) : ∀ (f0 : Int × Int), OkF f0 → (∀ f ∈ fs, OkF f) → LeastOf (fs.foldl mn f0) (f0 :: fs) ∧ OkF (fs.foldl mn f0) := by
  induction fs with
  | nil => intro f0 h0 _; exact ⟨⟨by simp, fun f hf => by simp at hf; rw [hf]; exact LeF.refl _⟩, h0⟩
  | cons g fs ih =>
    intro f0 h0 h
    have hg := h g (by simp)
    have ho := mn_ok h0 hg
    obtain ⟨⟨h1, h2⟩, h3⟩ := ih (mn f0 g) ho (fun f hf => h f (by simp [hf]))
    refine ⟨⟨?_, fun f hf => ?_⟩, h3⟩
    · rcases List.mem_cons.1 h1 with e | e
      · rcases mn_mem f0 g with e2 | e2
        · rw [List.foldl_cons, e, e2]; simp
        · rw [List.foldl_cons, e, e2]; simp
      · exact List.mem_cons_of_mem _ (List.mem_cons_of_mem _ e)
    · have hm := h2 (mn f0 g) (by simp)
      rcases List.mem_cons.1 hf with e | e
      · subst e; exact LeF.trans h3 ho h0 hm (mn_le1 _ _)
      · rcases List.mem_cons.1 e with e | e
        · subst e; exact LeF.trans h3 ho hg hm (mn_le2 _ _)
        · exact h2 f (List.mem_cons_of_mem _ e)
theorem leastL_of {fs : List (Int × Int)} (hne : fs ≠ []) (h : ∀ f ∈ fs, OkF f) : LeastOf (leastL fs) fs := by
  cases fs with
  | nil => exact absurd rfl hne
  | cons f fs => exact (foldl_mn fs f (h f (by simp)) (fun g hg => h g (by simp [hg]))).1
theorem leastL_ok {fs : List (Int × Int)} (hne : fs ≠ []) (h : ∀ f ∈ fs, OkF f) : OkF (leastL fs) := h _ (leastL_of hne h).mem
theorem LeastOf.unique {m m' : Int × Int} {fs : List (Int × Int)} (h : ∀ f ∈ fs, OkF f) (a : LeastOf m fs) (b : LeastOf m' fs) : m = m' :=
  LeF.antisymm (h _ a.mem) (h _ b.mem) (a.le _ b.mem) (b.le _ a.mem)
theorem LeastOf.congr {m : Int × Int} {fs gs : List (Int × Int)} (a : LeastOf m fs) (h : ∀ f, f ∈ fs ↔ f ∈ gs) : LeastOf m gs := ⟨(h _).1 a.mem, fun f hf => a.le f ((h f).2 hf)⟩
theorem leastL_congr {fs gs : List (Int × Int)} (hok : ∀ f ∈ fs, OkF f) (h : ∀ f, f ∈ fs ↔ f ∈ gs) : leastL fs = leastL gs := by
  cases fs with
  | nil => cases gs with
    | nil => rfl
    | cons g gs => exact absurd ((h g).2 (by simp)) (by simp)
  | cons f fs =>
    have hgs : gs ≠ [] := by rintro rfl; exact absurd ((h f).1 (by simp)) (by simp)
    exact ((leastL_of (by simp) hok).congr h).unique (fun g hg => hok g ((h g).2 hg)) (leastL_of hgs fun g hg => hok g ((h g).2 hg))
/-- The least of more is the least of both leasts. -/
theorem leastL_append {fs gs : List (Int × Int)} (hf : fs ≠ []) (hg : gs ≠ []) (okf : ∀ f ∈ fs, OkF f) (okg : ∀ f ∈ gs, OkF f) : leastL (fs ++ gs) = mn (leastL fs) (leastL gs) := by
  have a := leastL_of hf okf
  have b := leastL_of hg okg
  have ok : ∀ f ∈ fs ++ gs, OkF f := fun f h => (List.mem_append.1 h).elim (okf f) (okg f)
  refine (leastL_of (by simp [hf]) ok).unique ok ⟨?_, fun f h => ?_⟩
  · rcases mn_mem (leastL fs) (leastL gs) with e | e
    · rw [e]; exact List.mem_append_left _ a.mem
    · rw [e]; exact List.mem_append_right _ b.mem
  · have oa := okf _ a.mem
    have ob := okg _ b.mem
    rcases List.mem_append.1 h with h | h
    · exact LeF.trans (mn_ok oa ob) oa (okf f h) (mn_le1 (leastL fs) (leastL gs)) (a.le f h)
    · exact LeF.trans (mn_ok oa ob) ob (okg f h) (mn_le2 (leastL fs) (leastL gs)) (b.le f h)
end Go.Proofs.YtmdjhoknlplecaaGreatDoor
namespace Go.Proofs.YtmdjhoknlplecaaGreatDoor
open Go.RowKit Go.Sort

theorem farS_of {p : P2} {s : P2 × P2} (hs : sgP s.1 s.2 = true) (hp : ptB p.1 p.2 = true) : farS p s = far s.1.1 s.1.2 s.2.1 s.2.2 p.1 p.2 := farV_ok hs hp
theorem farS_ok {p : P2} {s : P2 × P2} (hs : sgP s.1 s.2 = true) (hp : ptB p.1 p.2 = true) : OkF (farS p s) := by rw [farS_of hs hp]; exact far_ok hs hp
theorem plE_eq {o : List P2} {hs : List (List P2)} (hv : plV o hs = true) : plE o hs = segsL o ++ hs.flatMap segsL := by unfold plE; rw [hv, if_pos rfl]
theorem plE_ne {o : List P2} {hs : List (List P2)} (hv : plV o hs = true) : 3 ≤ (plE o hs).length := by
  have L := (plV_iff o hs).1 hv
  have := (okV_pos L.out).1
  rw [plE_eq hv, List.length_append, segsL_len]; omega
/-- How far a point is from the nearest edge. -/
def plFI (o : List P2) (hs : List (List P2)) (p : P2) : Int × Int := leastL ((plE o hs).map (farS p))
/-- The same, where all is ok; else nothing. -/
def plFV (o : List P2) (hs : List (List P2)) (p : P2) : Int × Int := if plV o hs && ptB p.1 p.2 then plFI o hs p else (0, 0)
theorem plFV_ok {o : List P2} {hs : List (List P2)} {p : P2} (hv : plV o hs = true) (hp : ptB p.1 p.2 = true) : plFV o hs p = plFI o hs p := by unfold plFV; rw [hv, hp]; rfl
theorem plFV_no {o : List P2} {hs : List (List P2)} {p : P2} (h : plV o hs = false ∨ ptB p.1 p.2 = false) : plFV o hs p = (0, 0) := by
  unfold plFV
  rcases h with h | h
  · rw [h]; rfl
  · rw [h, Bool.and_false]; rfl
theorem plE_far {o : List P2} {hs : List (List P2)} {p : P2} (hv : plV o hs = true) (hp : ptB p.1 p.2 = true) : ∀ f ∈ (plE o hs).map (farS p), OkF f := by
  intro f hf
  obtain ⟨s, h, rfl⟩ := List.mem_map.1 hf
  exact farS_ok (plE_ok hv h) hp
theorem plFI_least {o : List P2} {hs : List (List P2)} {p : P2} (hv : plV o hs = true) (hp : ptB p.1 p.2 = true) : LeastOf (plFI o hs p) ((plE o hs).map (farS p)) :=
  leastL_of (by intro e; have := plE_ne hv; have e2 := congrArg List.length e; rw [List.length_map, List.length_nil] at e2; omega) (plE_far hv hp)
theorem plFI_ok {o : List P2} {hs : List (List P2)} {p : P2} (hv : plV o hs = true) (hp : ptB p.1 p.2 = true) : OkF (plFI o hs p) := plE_far hv hp _ (plFI_least hv hp).mem
theorem plFI_mem {o : List P2} {hs : List (List P2)} {p : P2} (hv : plV o hs = true) (hp : ptB p.1 p.2 = true) : ∃ j, j < (plE o hs).length ∧ farS p (sAt (plE o hs) j) = plFI o hs p := by
  obtain ⟨s, h, e⟩ := List.mem_map.1 (plFI_least hv hp).mem
  obtain ⟨j, hj, rfl⟩ := List.getElem_of_mem h
  exact ⟨j, hj, by unfold sAt; rw [List.getElem?_eq_getElem hj, Option.getD_some]; exact e⟩
theorem plFI_le {o : List P2} {hs : List (List P2)} {p : P2} (hv : plV o hs = true) (hp : ptB p.1 p.2 = true) {j : Nat} (hj : j < (plE o hs).length) : LeF (plFI o hs p) (farS p (sAt (plE o hs) j)) :=
  (plFI_least hv hp).le _ (List.mem_map.2 ⟨_, sAt_mem hj, rfl⟩)
/-- It is 0 just on an edge. -/
theorem plFI_zero {o : List P2} {hs : List (List P2)} {p : P2} (hv : plV o hs = true) (hp : ptB p.1 p.2 = true) : plFI o hs p = (0, 1) ↔ plI o hs p = 0 := by
  rw [plI_zero hv, ← plE_on hv p]
  have z : ∀ j, j < (plE o hs).length → (farS p (sAt (plE o hs) j) = (0, 1) ↔ hasP (sAt (plE o hs) j).1 (sAt (plE o hs) j).2 p = true) := fun j hj => by
    have hs := plE_ok hv (sAt_mem hj)
    rw [farS_of hs hp, ← ok_zero (far_ok hs hp)]
    exact far_zero hs hp
  constructor
  · intro h
    obtain ⟨j, hj, e⟩ := plFI_mem hv hp
    exact ⟨j, hj, (z j hj).1 (by rw [e]; exact h)⟩
  · rintro ⟨j, hj, h⟩
    have hl := plFI_le hv hp hj
    rw [(z j hj).2 h] at hl
    have hp' := (plFI_ok hv hp).pos
    unfold LeF at hl
    exact (ok_zero (plFI_ok hv hp)).1 (by dsimp only at hl; omega)
theorem ptAt_mem {l : List P2} {i : Nat} (h : i < l.length) : ptAt l i ∈ l := by unfold ptAt; rw [List.getElem?_eq_getElem h, Option.getD_some]; exact List.getElem_mem _
theorem okV_plV {l : List P2} (h : okV l = true) : plV l [] = true := h
theorem segsL_ne {l : List P2} (h : okV l = true) (p : P2) : (segsL l).map (farS p) ≠ [] := by
  intro e
  have := congrArg List.length e
  rw [List.length_map, segsL_len, List.length_nil] at this
  have := (okV_pos h).1
  omega
/-- With a hole more it is the lesser of what it was, and how far that hole is. -/
theorem plFI_snoc {o h : List P2} {hs : List (List P2)} {p : P2} (hv : plV o (hs ++ [h]) = true) (hp : ptB p.1 p.2 = true) : plFI o (hs ++ [h]) p = mn (plFI o hs p) (plFI h [] p) := by
  have hv' : plV o hs = true := by have := plV_less hv; rwa [List.dropLast_concat] at this
  have L := (plV_iff _ _).1 hv
  have ok := L.ok h (by simp)
  have ho := plE_far hv' hp
  have hh := plE_far (okV_plV ok) hp
  have e : plE o (hs ++ [h]) = plE o hs ++ plE h [] := by rw [plE_eq hv, plE_eq hv', plE_eq (okV_plV ok)]; simp
  unfold plFI
  rw [e, List.map_append]
  refine leastL_append ?_ ?_ ho hh
  · intro e; have := plE_ne hv'; have e2 := congrArg List.length e; rw [List.length_map, List.length_nil] at e2; omega
  · intro e; have := plE_ne (okV_plV ok); have e2 := congrArg List.length e; rw [List.length_map, List.length_nil] at e2; omega
/-- What moves points, and leaves how far they are. -/
theorem segsL_map (f : P2 → P2) (l : List P2) : segsL (l.map f) = (segsL l).map fun s => (f s.1, f s.2) := by
  unfold segsL
  rw [List.length_map, List.map_map]
  refine List.map_congr_left fun i hi => ?_
  have h1 : i < l.length := List.mem_range.1 hi
  simp only [Function.comp, map_nxt]
  rw [map_at h1, map_at (nxt_lt (by omega))]
theorem plFI_map {f : P2 → P2} {o : List P2} {hs : List (List P2)} {p : P2} (hv : plV o hs = true) (hv' : plV (o.map f) (hs.map (List.map f)) = true) (hf : ∀ s ∈ plE o hs, farS (f p) (f s.1, f s.2) = farS p s) : plFI (o.map f) (hs.map (List.map f)) (f p) = plFI o hs p := by
  unfold plFI
  have e : plE (o.map f) (hs.map (List.map f)) = (plE o hs).map fun s => (f s.1, f s.2) := by
    rw [plE_eq hv, plE_eq hv', segsL_map, List.map_append, List.flatMap_map, List.map_flatMap]
    simp only [segsL_map]
  rw [e, List.map_map]
  exact congrArg leastL (List.map_congr_left fun s h => hf s h)
theorem plFI_mir {o : List P2} {hs : List (List P2)} {p : P2} (hv : plV o hs = true) (hp : ptB p.1 p.2 = true) : plFI (o.map mirP) (hs.map (List.map mirP)) (mirP p) = plFI o hs p :=
  plFI_map hv (plV_turn turns_mir hv) fun s h => by
    have hs := plE_ok hv h
    have hs' : sgP (mirP s.1) (mirP s.2) = true := mir_side.sg _ _ hs
    have hp' : ptB (mirP p).1 (mirP p).2 = true := by rw [ptB_iff] at hp ⊢; unfold mirP; dsimp only; omega
    rw [farS_of (s := (mirP s.1, mirP s.2)) hs' hp', farS_of hs hp]
    exact far_mir _ _ _ _ _ _
theorem plFI_swp {o : List P2} {hs : List (List P2)} {p : P2} (hv : plV o hs = true) (hp : ptB p.1 p.2 = true) : plFI (o.map swpP) (hs.map (List.map swpP)) (swpP p) = plFI o hs p :=
  plFI_map hv (plV_turn turns_swp hv) fun s h => by
    have hs := plE_ok hv h
    have hs' : sgP (swpP s.1) (swpP s.2) = true := swp_side.sg _ _ hs
    have hp' : ptB (swpP p).1 (swpP p).2 = true := by rw [ptB_iff] at hp ⊢; unfold swpP; dsimp only; omega
    rw [farS_of (s := (swpP s.1, swpP s.2)) hs' hp', farS_of hs hp]
    exact far_swap _ _ _ _ _ _
/-- In a plate on the other side what is in is in. -/
theorem plI_map {f : P2 → P2} (hf : ∀ l p, inI (l.map f) (f p) = inI l p) (o : List P2) (hs : List (List P2)) (p : P2) : plI (o.map f) (hs.map (List.map f)) (f p) = plI o hs p := by
  unfold plI
  rw [List.foldl_map, hf]
  simp only [hf]
end Go.Proofs.YtmdjhoknlplecaaGreatDoor
namespace Go.Proofs.YtmdjhoknlplecaaGreatDoor
open Go.RowKit Go.Sort

/-- A tool is ok. -/
def rV (r : Int) : Bool := decide (1 ≤ r ∧ r ≤ 9)
theorem rV_iff (r : Int) : rV r = true ↔ 1 ≤ r ∧ r ≤ 9 := by simp [rV]
/-- The tool does not cut what is as far. -/
def spB (r : Int) (f : Int × Int) : Bool := decide (r * f.2 ≤ f.1)
/-- It fits, where all is ok. -/
def fitI (o : List P2) (hs : List (List P2)) (r : Int) (p : P2) : Bool := decide (plI o hs p = 1) && spB r (plFI o hs p)
/-- It fits. -/
def fitV (o : List P2) (hs : List (List P2)) (r : Int) (p : P2) : Bool := rV r && plV o hs && ptB p.1 p.2 && fitI o hs r p
theorem ok_whole {r : Int} (h : rV r = true) : okB r 1 = true := by
  rw [rV_iff] at h
  rw [okB_iff]
  refine ⟨by omega, by omega, by omega, by omega, ?_⟩
  exact G_one r
theorem sp_cmp {r : Int} {f : Int × Int} (h : rV r = true) (hf : OkF f) : decide (cmpV r 1 f.1 f.2 ≤ 0) = spB r f := by
  unfold cmpV spB
  rw [ok_whole h, show okB f.1 f.2 = true from hf]
  show decide (cmpI (r * f.2) (f.1 * 1) ≤ 0) = _
  rw [Int.mul_one]
  unfold cmpI
  by_cases h1 : r * f.2 < f.1
  · rw [if_pos h1]; simp; omega
  · rw [if_neg h1]
    by_cases h2 : f.1 < r * f.2
    · rw [if_pos h2]; simp; omega
    · rw [if_neg h2]; simp; omega
theorem fitV_ok {o : List P2} {hs : List (List P2)} {r : Int} {p : P2} (hr : rV r = true) (hv : plV o hs = true) (hp : ptB p.1 p.2 = true) : fitV o hs r p = fitI o hs r p := by unfold fitV; rw [hr, hv, hp]; rfl
end Go.Proofs.YtmdjhoknlplecaaGreatDoor
namespace Go.Proofs.YtmdjhoknlplecaaGreatDoor
open Go.RowKit Go.Sort

/-- A point is nearer to a segment than a tool cuts. -/
def nearI (s : P2 × P2) (r : Int) (p : P2) : Bool :=
  if dt s.1.1 s.1.2 s.2.1 s.2.2 p.1 p.2 ≤ 0 then decide (dt s.1.1 s.1.2 p.1 p.2 p.1 p.2 < r)
  else if dt s.1.1 s.1.2 s.2.1 s.2.2 s.2.1 s.2.2 ≤ dt s.1.1 s.1.2 s.2.1 s.2.2 p.1 p.2 then decide (dt s.2.1 s.2.2 p.1 p.2 p.1 p.2 < r)
  else decide (crs s.1.1 s.1.2 s.2.1 s.2.2 p.1 p.2 * crs s.1.1 s.1.2 s.2.1 s.2.2 p.1 p.2 < r * dt s.1.1 s.1.2 s.2.1 s.2.2 s.2.1 s.2.2)
theorem near_raw (s : P2 × P2) (r : Int) (p : P2) : nearI s r p = decide ((farR s.1.1 s.1.2 s.2.1 s.2.2 p.1 p.2).1 < r * (farR s.1.1 s.1.2 s.2.1 s.2.2 p.1 p.2).2) := by
  unfold nearI farR
  split
  · simp
  · split
    · rw [if_pos (by have := dt_back s.1.1 s.1.2 s.2.1 s.2.2 p.1 p.2; omega)]; simp
    · rw [if_neg (by have := dt_back s.1.1 s.1.2 s.2.1 s.2.2 p.1 p.2; omega)]
theorem near_far {s : P2 × P2} {r : Int} {p : P2} (hs : sgP s.1 s.2 = true) (hp : ptB p.1 p.2 = true) : nearI s r p = !spB r (farS p s) := by
  rw [near_raw, farS_of hs hp]
  have hd := (sg_parts hs).2.2
  have e := far_raw hs hp
  have h1 := farR_pos p.1 p.2 hd
  have h2 := far_pos hs hp
  unfold spB
  generalize far s.1.1 s.1.2 s.2.1 s.2.2 p.1 p.2 = f at *
  generalize farR s.1.1 s.1.2 s.2.1 s.2.2 p.1 p.2 = q at *
  rw [← decide_not, decide_eq_decide]
  constructor
  · intro h hc
    have a := raw_le e h1.2 h2.2 (m := q.1) (b := q.2) (Int.le_refl _)
    have b1 := Int.mul_le_mul_of_nonneg_right hc (show 0 ≤ q.2 by omega)
    have b2 : q.1 * f.2 < r * q.2 * f.2 := Int.mul_lt_mul_of_pos_right h h2.2
    grind
  · intro h
    have b1 : f.1 < r * f.2 := by omega
    have b2 : f.1 * q.2 < r * f.2 * q.2 := Int.mul_lt_mul_of_pos_right b1 h1.2
    rw [e] at b2
    refine Int.lt_of_mul_lt_mul_right (a := f.2) ?_ (by omega)
    grind
theorem sp_le {r : Int} {f g : Int × Int} (hr : rV r = true) (hf : OkF f) (hg : OkF g) (h : LeF f g) (hs : spB r f = true) : spB r g = true := by
  unfold spB at *
  rw [decide_eq_true_eq] at *
  have o1 : OkF (r, 1) := ok_whole hr
  have := LeF.trans o1 hf hg (f := (r, 1)) (by unfold LeF; dsimp only; omega) h
  unfold LeF at this
  dsimp only at this
  omega
/-- Where it fits no edge is nearer, and the other way about. -/
theorem fit_all {o : List P2} {hs : List (List P2)} {r : Int} {p : P2} (hr : rV r = true) (hv : plV o hs = true) (hp : ptB p.1 p.2 = true) : ((plE o hs).all fun s => !nearI s r p) = spB r (plFI o hs p) := by
  have hL := plFI_least hv (p := p) hp
  have ho := plFI_ok hv (p := p) hp
  rw [Bool.eq_iff_iff, List.all_eq_true]
  constructor
  · intro h
    obtain ⟨s, hs', e⟩ := List.mem_map.1 hL.mem
    have := h s hs'
    rw [near_far (plE_ok hv hs') hp, Bool.not_not] at this
    rwa [← e]
  · intro h s hs'
    rw [near_far (plE_ok hv hs') hp, Bool.not_not]
    exact sp_le hr ho (farS_ok (plE_ok hv hs') hp) (hL.le _ (List.mem_map.2 ⟨s, hs', rfl⟩)) h
theorem fitI_all {o : List P2} {hs : List (List P2)} {r : Int} {p : P2} (hr : rV r = true) (hv : plV o hs = true) (hp : ptB p.1 p.2 = true) : fitI o hs r p = (((plE o hs).all fun s => !nearI s r p) && decide (plI o hs p = 1)) := by
  rw [fit_all hr hv hp]; unfold fitI; exact Bool.and_comm _ _
end Go.Proofs.YtmdjhoknlplecaaGreatDoor
namespace Go.Proofs.YtmdjhoknlplecaaGreatDoor
open Go.RowKit Go.Sort

end Go.Proofs.YtmdjhoknlplecaaGreatDoor
namespace Go.Proofs.YtmdjhoknlplecaaGreatDoor
open Go.RowKit Go.Sort

theorem foldl_take_succ {α β : Type} (f : β → α → β) (l : List α) (d : α) (s : β) (k : Nat) (hk : k < l.length) : (l.take (k + 1)).foldl f s = f ((l.take k).foldl f s) (l[k]?.getD d) := by
  rw [List.take_add_one, List.foldl_append]; simp [hk]
theorem plI_bd (o : List P2) (hs : List (List P2)) (p : P2) : -1 ≤ plI o hs p ∧ plI o hs p ≤ 1 := by
  unfold plI
  have : ∀ (hs : List (List P2)) (s : Int), -1 ≤ s ∧ s ≤ 1 → -1 ≤ hs.foldl (fun s h => min s (-(inI h p))) s ∧ hs.foldl (fun s h => min s (-(inI h p))) s ≤ 1 := by
    intro hs
    induction hs with
    | nil => intro s h; exact h
    | cons x xs ih => intro s h; exact ih _ (by dsimp only; have := inI_3 x p; omega)
  exact this hs _ (by have := inI_3 o p; omega)
set_option maxRecDepth 100000 in
set_option maxHeartbeats 4000000 in
theorem sPlI_ok (a ah : Option Addr) (la ca nh ch : Nat) (o : List P2) (hs : List (List P2)) (p : P2) (hv : plV o hs = true) (hp : ptB p.1 p.2 = true) (w : World) (h : Plt w a la ah nh o hs) :
    Calls Tryz.prog 76 #[.agg #[.slice a la ca, .slice ah nh ch], .agg #[.int .i64 p.1, .int .i64 p.2]] w fun e W' => e = .returned (.int .i64 (plI o hs p)) ∧ Below w.heap.size w W' := by
  obtain ⟨W, hW, BW, TP, T⟩ := boxes2 w (.cells #[.slice a la ca, .slice ah nh ch] 33) (.cells #[.int .i64 p.1, .int .i64 p.2] 35)
  have hPV := (plV_iff o hs).1 hv
  obtain ⟨hla, hP, hlen, A, L, C, hS, hH⟩ := h.below BW
  have HO := sInI_pts a la ca o p hPV.out hp W hP
  have HOK : Hid (∀ j, j < nh → okV (hs[j]?.getD []) = true) := fun j hj => hPV.ok _ (by rw [List.getElem?_eq_getElem (by omega), Option.getD_some]; exact List.getElem_mem _)
  have HL : Hid (hs.length = nh) := hlen
  have H0 : Hid (plI o (hs.take 0) p = inI o p) := rfl
  have HN : Hid (plI o (hs.take nh) p = plI o hs p) := by change _ = _; rw [← hlen, List.take_length]
  have HS : Hid (∀ k, k < nh → plI o (hs.take (k + 1)) p = min (plI o (hs.take k) p) (-(inI (hs[k]?.getD []) p))) := fun k hk => by
    unfold plI; exact foldl_take_succ _ hs [] _ k (by omega)
  have hnh : nh ≤ 2 := by have := hPV.len; omega
  clear hlen hPV hv h
  obtain ⟨t0, t1⟩ := blk_2 TP
  obtain ⟨u0, u1⟩ := blk_2 T
  have zP := blk_lt TP
  go_enter Tryz.func76, Tryz.ntmps76
  go_upto_region 1 with fail
  rw [← hW]
  clear hW
  go_wp2_with (go_at_call 55; refine HO.mono ?_; rintro e v ⟨rfl, J⟩)
  have K := bw_trans BW J
  replace TP := keep J TP
  replace T := keep J T
  replace hS := (hS.below J).grow J.size
  replace hH : ∀ j, j < nh → L j ≤ 1048576 ∧ Pts v.heap.size v (A j) (L j) (hs[j]?.getD []) := fun j hj => ⟨(hH j hj).1, ((hH j hj).2.below J).grow J.size⟩
  clear HO t0 t1 u0 u1 J zP
  go_loopw [5, 6] (fun s i wr => ∃ k : Nat, k ≤ nh ∧ i = .int .i64 k ∧ s = .int .i64 (plI o (hs.take k) p) ∧ Below v.heap.size v wr) (fun _ i _ => nh - (intOf i).toNat)
  case atStart => exact ⟨0, Nat.zero_le _, rfl, by rw [H0.out], bw_refl _⟩
  case round =>
    obtain ⟨k, hk, rfl, rfl, hnx⟩ := hrel
    have hbd := plI_bd o (hs.take k) p
    obtain ⟨t0, t1⟩ := blk_2 (keep hnx TP)
    have zT := blk_lt (keep hnx TP)
    by_cases hlt : k < nh
    case neg =>
      obtain rfl : k = nh := by omega
      rw [HN.out]
      go_wp2_with fail
      go_ret
      exact ⟨rfl, bw_trans K hnx⟩
    case pos =>
      rcases hS.below hnx with h0 | ⟨b, off, rfl, hbl, hcs⟩
      · omega
      have c0 := cell_regrown (hcs k hlt)
      clear hcs
      have i0 : (0 : Int) ≤ (k : Int) := Int.natCast_nonneg _
      have i1 : (k : Int) < (nh : Int) := by omega
      obtain ⟨hLk, hPk⟩ := hH k hlt
      have hokk := HOK.out k hlt
      have hst := HS.out k hlt
      have hPkw := (hPk.below hnx).grow hnx.size
      have y3 := inI_3 (hs[k]?.getD []) p
      have HW : Hid (∀ d os, Calls Tryz.prog 55 #[.slice (A k) (L k) (C k), .agg #[.int .i64 p.1, .int .i64 p.2]] (grow (redrawn wr d) os) fun e W' => e = .returned (.int .i64 (inI (hs[k]?.getD []) p)) ∧ Below (grow (redrawn wr d) os).heap.size (grow (redrawn wr d) os) W') := fun d os =>
        sInI_pts (A k) (L k) (C k) _ p hokk hp _ ((hPkw.below (below_regrown wr d os)).grow (below_regrown wr d os).size)
      obtain ⟨t0r, t1r⟩ := reg_2 (keep hnx TP)
      obtain ⟨u0r, u1r⟩ := reg_2 (keep hnx T)
      have hst' : Hid (plI o (hs.take (k + 1)) p = min (plI o (hs.take k) p) (-(inI (hs[k]?.getD []) p))) := hst
      clear hst hokk hPk hPkw
      generalize inI (hs[k]?.getD []) p = u1 at *
      generalize plI o (hs.take k) p = u at *
      have nu : IntKind.i64.wrap (-u1) = -u1 := wrap_small (by omega) (by omega)
      by_cases hm : -u1 < u
      · have hmin : min u (-u1) = -u1 := by omega
        go_wp2_with fail
        refine wp_region_quiet_below (by kernel_rfl) (by kernel_rfl) ?_
        repeat (first | go_big_quiet_step (first | (go_at_call 55; with_reducible exact Calls.regrown_of (HW.out _ _))))
        refine wpQuiet_nil ?_
        intro _ hw'
        obtain ⟨⟨dq, osq⟩, hw''⟩ := hw'
        subst hw''
        have J := below_regrown wr dq osq
        generalize grow (redrawn wr dq) osq = v2 at J ⊢
        go_wp2_with fail
        go_roundw
        case rel => exact ⟨k + 1, by omega, by simp, by rw [hst'.out, hmin], bw_trans hnx J⟩
        case measure => simp [intOf]; omega
      · have hmin : min u (-u1) = u := by omega
        go_wp2_with fail
        refine wp_region_quiet_below (by kernel_rfl) (by kernel_rfl) ?_
        repeat (first | go_big_quiet_step (first | (go_at_call 55; with_reducible exact Calls.regrown_of (HW.out _ _))))
        refine wpQuiet_nil ?_
        intro _ hw'
        obtain ⟨⟨dq, osq⟩, hw''⟩ := hw'
        subst hw''
        have J := below_regrown wr dq osq
        generalize grow (redrawn wr dq) osq = v2 at J ⊢
        go_wp2_with fail
        go_roundw
        case rel => exact ⟨k + 1, by omega, by simp, by rw [hst'.out, hmin], bw_trans hnx J⟩
        case measure => simp [intOf]; omega
end Go.Proofs.YtmdjhoknlplecaaGreatDoor
namespace Go.Proofs.YtmdjhoknlplecaaGreatDoor
open Go.RowKit Go.Shelf Go.Sort
attribute [local go_sem] Oper.semAt_some

/-- The cells of the edges that have come. -/
def segF (pts : List P2) (pre : List (Fin pts.length)) : List Value := pre.flatMap fun k => seg4 (ptAt pts k.1) (ptAt pts (nxt pts k.1))
theorem segF_snoc (pts : List P2) (pre : List (Fin pts.length)) (k : Fin pts.length) : segF pts (pre ++ [k]) = segF pts pre ++ seg4 (ptAt pts k.1) (ptAt pts (nxt pts k.1)) := by simp [segF]
theorem segR (pts : List P2) (n : Nat) : ((List.range n).flatMap fun k => seg4 (ptAt pts k) (ptAt pts (nxt pts k))) = segCells pts n := by
  induction n with
  | zero => rfl
  | succ n ih => rw [List.range_succ, List.flatMap_append, ih]; simp [segCells]
theorem segF_all (pts : List P2) : segF pts (List.finRange pts.length) = segCells pts pts.length := by
  rw [← segR]
  have : List.range pts.length = (List.finRange pts.length).map fun k => k.1 := by
    apply List.ext_getElem
    · simp
    · intro i h1 h2; simp
  rw [this, List.flatMap_map]; rfl
theorem own_base {W : World} {base base' : Nat} {e : TypeId} {size n : Nat} {v : Value} {xs : List Value} (h : W.ownsRow base e size v n xs) (hb : base' ≤ base) : W.ownsRow base' e size v n xs :=
  ⟨h.1, h.2.imp id fun ⟨g, c, cur, e1, h1, r⟩ => ⟨g, c, cur, e1, Nat.le_trans hb h1, r⟩⟩
/-- What LoopEdges answers. -/
def EdgesAns (base : Nat) (pts : List P2) (len : Nat) (e : Ending) (W' : World) : Prop :=
  (okV pts = false ∧ e = .returned (.slice none 0 0)) ∨ (okV pts = true ∧ ∃ vv, e = .returned vv ∧ W'.ownsRow base 62 4 vv len (segCells pts len))
/-- What the specification's answers. -/
def SEdgesAns (base : Nat) (pts : List P2) (len : Nat) (e : Ending) (W' : World) : Prop :=
  ∃ vv, e = .returned vv ∧ W'.ownsRow base 62 4 vv (if okV pts then len else 0) (segCells pts (if okV pts then len else 0))
end Go.Proofs.YtmdjhoknlplecaaGreatDoor
namespace Go.Proofs.YtmdjhoknlplecaaGreatDoor
open Go.RowKit Go.Sort

set_option maxRecDepth 100000 in
set_option maxHeartbeats 4000000 in
theorem boardIn_any (b : Nat) (o : RingT) (hs : List RingT) (p : P2) (w : World) (hR : RingL w.heap.size w (some ⟨b, 0, none⟩) (o :: hs)) (hok : ((o :: hs).all fun x => okV x.pts) = true) (hp : ptB p.1 p.2 = true) :
    Calls Tryz.prog 60 #[.pointer (some ⟨b, 0, none⟩), .agg #[.int .i64 p.1, .int .i64 p.2]] w fun e W' => e = .returned (.int .i64 (plI o.pts (hs.map RingT.pts) p)) ∧ Below w.heap.size w W' := by
  obtain ⟨b0, q0, t0, e0, ob, ol, oP, hR⟩ := hR
  cases e0
  rw [List.all_cons, Bool.and_eq_true] at hok
  have B0 : Below w.heap.size w (w.alloc (.cells #[.int .i64 p.1, .int .i64 p.2] 35)) := (by repeat (first | exact bw_refl _ | assumption | apply bw_drewN | apply bw_drew | apply bw_alloc | refine bw_set ?_ (by simp) _))
  obtain ⟨W, hW, BW, T⟩ : ∃ W, W = w.alloc (.cells #[.int .i64 p.1, .int .i64 p.2] 35) ∧ Below w.heap.size w W ∧ W.heap[w.heap.size]? = some (.cells #[.int .i64 p.1, .int .i64 p.2] 35) := ⟨_, rfl, (by repeat (first | exact bw_refl _ | assumption | apply bw_drewN | apply bw_drew | apply bw_alloc | refine bw_set ?_ (by simp) _)), heap_new _ _⟩
  have hpl : Hid (plI o.pts (hs.map RingT.pts) p = hs.foldl (fun s x => min s (-(inI x.pts p))) (inI o.pts p)) := by change _ = _; unfold plI; rw [List.foldl_map]
  have hall : Hid (∀ x ∈ hs, okV x.pts = true) := List.all_eq_true.1 hok.2
  have HW : Hid (∀ d os, Calls Tryz.prog 98 #[.slice o.a o.len o.cap, .agg #[.int .i64 p.1, .int .i64 p.2]] (grow (redrawn W d) os) fun e W' => e = .returned (.int .i64 (inI o.pts p)) ∧ Below (grow (redrawn W d) os).heap.size (grow (redrawn W d) os) W') := fun d os =>
    where_any o.a o.len o.cap o.pts p ol hok.1 hp _ ((oP.below (bw_trans BW (below_regrown W d os))).grow (bw_trans BW (below_regrown W d os)).size)
  obtain ⟨o0, o1, _, _⟩ := lies2 (ob.below BW)
  have o0' := cell_regrown o0
  obtain ⟨t0', t1'⟩ := reg_2 T
  have h3 := inI_3 o.pts p
  have hR1 := (hR.below BW (Nat.le_refl _)).grow BW.size
  have ob1 := ob.below BW
  clear o0 o1 hok
  generalize inI o.pts p = u0 at *
  go_enter Tryz.func60, Tryz.ntmps60
  go_upto_region 1 with fail
  rw [← hW]
  clear hW
  refine wp_region_quiet_below (by kernel_rfl) (by kernel_rfl) ?_
  repeat (first | go_big_quiet_step (first | (go_at_call 98; with_reducible exact Calls.regrown_of (HW.out _ _))))
  refine wpQuiet_nil ?_
  intro _ hw'
  obtain ⟨⟨dq, osq⟩, hw''⟩ := hw'
  subst hw''
  have J := below_regrown W dq osq
  generalize grow (redrawn W dq) osq = v at J ⊢
  obtain ⟨o0, o1, _, _⟩ := lies2 (ob1.below J)
  have K := bw_trans BW J
  replace T := keep J T
  have hR2 := (hR1.below J (Nat.le_refl _)).grow J.size
  clear HW t0' t1' o0' hR1 hR
  go_wp2_with fail
  go_loopw [5, 6] (fun s q wr => ∃ (u : Int) (q' : Option Addr) (rest : List RingT), s = .int .i64 u ∧ q = .pointer q' ∧ (-1 ≤ u ∧ u ≤ 1) ∧ RingL wr.heap.size wr q' rest ∧ (∀ x ∈ rest, okV x.pts = true) ∧ hs.foldl (fun s x => min s (-(inI x.pts p))) u0 = rest.foldl (fun s x => min s (-(inI x.pts p))) u ∧ Below v.heap.size v wr) (fun _ q wr => ringsLeft wr q)
  case atStart => exact ⟨u0, q0, hs, rfl, rfl, by omega, hR2, hall.out, rfl, bw_refl _⟩
  case round =>
    obtain ⟨u, q', rest, rfl, rfl, hu, hL, hak, he, hnx⟩ := hrel
    cases rest with
    | nil =>
      obtain rfl : q' = none := hL
      have e1 : Hid (plI o.pts (hs.map RingT.pts) p = u) := by change _ = _; rw [hpl.out, he]; rfl
      clear he
      go_wp2_with fail
      go_ret
      exact ⟨ret_int e1.out.symm, bw_trans K hnx⟩
    | cons y ys =>
      have hL' := hL
      obtain ⟨b1, q1, t1, rfl, hb, hlen, hP, hr⟩ := hL
      obtain ⟨d0, d1, _, _⟩ := lies2 hb
      have d0' := cell_regrown d0
      have d1' := cell_regrown d1
      obtain ⟨t0', t1'⟩ := reg_2 (keep hnx T)
      have y3 := inI_3 y.pts p
      have HW : Hid (∀ d os, Calls Tryz.prog 98 #[.slice y.a y.len y.cap, .agg #[.int .i64 p.1, .int .i64 p.2]] (grow (redrawn wr d) os) fun e W' => e = .returned (.int .i64 (inI y.pts p)) ∧ Below (grow (redrawn wr d) os).heap.size (grow (redrawn wr d) os) W') := fun d os =>
        where_any y.a y.len y.cap y.pts p hlen (hak y (by simp)) hp _ ((hP.below (below_regrown wr d os)).grow (below_regrown wr d os).size)
      have he1 : Hid (hs.foldl (fun s x => min s (-(inI x.pts p))) u0 = ys.foldl (fun s x => min s (-(inI x.pts p))) (min u (-(inI y.pts p)))) := he
      clear he
      generalize inI y.pts p = u1 at *
      have nu : IntKind.i64.wrap (-u1) = -u1 := wrap_small (by omega) (by omega)
      clear d0 d1
      by_cases hm : -u1 < u
      · have hmin : min u (-u1) = -u1 := by omega
        go_wp2_with fail
        refine wp_region_quiet_below (by kernel_rfl) (by kernel_rfl) ?_
        repeat (first | go_big_quiet_step (first | (go_at_call 98; with_reducible exact Calls.regrown_of (HW.out _ _))))
        refine wpQuiet_nil ?_
        intro _ hw'
        obtain ⟨⟨dq, osq⟩, hw''⟩ := hw'
        subst hw''
        have J := below_regrown wr dq osq
        generalize grow (redrawn wr dq) osq = v2 at J ⊢
        obtain ⟨d0, d1, _, _⟩ := lies2 (hb.below J)
        go_wp2_with fail
        go_roundw
        case rel => exact ⟨-u1, q1, ys, rfl, rfl, by omega, (hr.below J (Nat.le_refl _)).grow J.size, fun x hx => hak x (by simp [hx]), by rw [he1.out, hmin], bw_trans hnx J⟩
        case measure => rw [ringsLeft_eq (hr.below J (Nat.le_refl _)), ringsLeft_eq hL']; simp
      · have hmin : min u (-u1) = u := by omega
        go_wp2_with fail
        refine wp_region_quiet_below (by kernel_rfl) (by kernel_rfl) ?_
        repeat (first | go_big_quiet_step (first | (go_at_call 98; with_reducible exact Calls.regrown_of (HW.out _ _))))
        refine wpQuiet_nil ?_
        intro _ hw'
        obtain ⟨⟨dq, osq⟩, hw''⟩ := hw'
        subst hw''
        have J := below_regrown wr dq osq
        generalize grow (redrawn wr dq) osq = v2 at J ⊢
        obtain ⟨d0, d1, _, _⟩ := lies2 (hb.below J)
        go_wp2_with fail
        go_roundw
        case rel => exact ⟨u, q1, ys, rfl, rfl, by omega, (hr.below J (Nat.le_refl _)).grow J.size, fun x hx => hak x (by simp [hx]), by rw [he1.out, hmin], bw_trans hnx J⟩
        case measure => rw [ringsLeft_eq (hr.below J (Nat.le_refl _)), ringsLeft_eq hL']; simp
set_option maxRecDepth 100000 in
set_option maxHeartbeats 1000000 in
theorem plateIn_any (a ah : Option Addr) (la ca nh ch : Nat) (o : List P2) (hs : List (List P2)) (p : P2) (w : World) (h : Plt w a la ah nh o hs) :
    Calls Tryz.prog 23 #[.agg #[.slice a la ca, .slice ah nh ch], .agg #[.int .i64 p.1, .int .i64 p.2]] w fun e W' => e = .returned (.int .i64 (plInV o hs p)) ∧ Below w.heap.size w W' := by
  obtain ⟨W, hW, BW, TP, T⟩ := boxes2 w (.cells #[.slice a la ca, .slice ah nh ch] 33) (.cells #[.int .i64 p.1, .int .i64 p.2] 35)
  have hh := h.below BW
  obtain ⟨t0, t1⟩ := blk_2 TP
  have zP := blk_lt TP
  cases hv : plV o hs
  · have e1 : Hid (plInV o hs p = -1) := by change _ = _; unfold plInV; rw [hv]; rfl
    go_enter Tryz.func23, Tryz.ntmps23
    go_upto_region 1 with fail
    rw [← hW]
    clear hW
    go_wp2_with fail
    refine (board_any a ah la ca nh ch o hs _ hh).mono ?_
    rw [hv]
    rintro e w1 ⟨q, rfl, J, _⟩
    go_wp2_with fail
    go_ret
    exact ⟨ret_int e1.out.symm, bw_trans BW J⟩
  cases hp : ptB p.1 p.2
  · have e1 : Hid (plInV o hs p = -1) := by change _ = _; unfold plInV; rw [hv, hp]; rfl
    go_enter Tryz.func23, Tryz.ntmps23
    go_upto_region 1 with fail
    rw [← hW]
    clear hW
    go_wp2_with fail
    refine (board_any a ah la ca nh ch o hs _ hh).mono ?_
    rw [hv]
    rintro e w1 ⟨q, rfl, J, _⟩
    replace T := keep J T
    clear t0 t1
    obtain ⟨t0, t1⟩ := blk_2 T
    go_wp2_with fail
    refine (pt_raw p _).mono ?_
    rw [hp]
    rintro e w2 ⟨rfl, J2⟩
    go_wp2_with fail
    go_ret
    exact ⟨ret_int e1.out.symm, bw_trans (bw_trans BW J) J2⟩
  · have e1 : Hid (plInV o hs p = plI o hs p) := by change _ = _; unfold plInV; rw [hv, hp]; rfl
    have L := (plV_iff o hs).1 hv
    go_enter Tryz.func23, Tryz.ntmps23
    go_upto_region 1 with fail
    rw [← hW]
    clear hW
    go_wp2_with fail
    refine (board_any a ah la ca nh ch o hs _ hh).mono ?_
    rintro e w1 ⟨q, rfl, J, hR⟩
    obtain ⟨b, xs, rfl, hR, hx⟩ := hR hv
    rw [hv]
    replace T := keep J T
    clear t0 t1
    obtain ⟨t0, t1⟩ := blk_2 T
    go_wp2_with fail
    refine (pt_raw p _).mono ?_
    rw [hp]
    rintro e w2 ⟨rfl, J2⟩
    replace T := keep J2 T
    clear t0 t1
    obtain ⟨t0, t1⟩ := blk_2 T
    have hall : ((⟨a, la, ca, o⟩ :: xs : List RingT).all fun x => okV x.pts) = true := by
      rw [List.all_eq_true]
      intro x hx'
      rcases List.mem_cons.1 hx' with e | e
      · subst e; exact L.out
      · exact L.ok _ (by rw [← hx]; exact List.mem_map.2 ⟨x, e, rfl⟩)
    go_wp2_with fail
    refine (boardIn_any b ⟨a, la, ca, o⟩ xs p w2 ((hR.below J2 (Nat.le_refl _)).grow J2.size) hall hp).mono ?_
    rw [hx]
    rintro e w3 ⟨rfl, J3⟩
    go_wp2_with fail
    go_ret
    exact ⟨ret_int e1.out.symm, bw_trans (bw_trans (bw_trans BW J) J2) J3⟩
end Go.Proofs.YtmdjhoknlplecaaGreatDoor
namespace Go.Proofs.YtmdjhoknlplecaaGreatDoor
open Go.RowKit Go.Shelf Go.Sort
attribute [local go_sem] Oper.semAt_some

set_option maxRecDepth 100000 in
set_option maxHeartbeats 4000000 in
theorem appendSeq_in (n : Nat) (hn : 10 ≤ n) (B : Nat) (q : Option Addr) (rs : List RingT) (w : World) (hB : w.cell? ⟨B, 0, none⟩ = some (.pointer q)) (hR : RingN w.heap.size w q rs) (hes : (edgR rs).length ≤ 1000) :
    CallsIn Fence.wide n Tryz.prog 101 #[.slice none 0 0, .func (.func 102) #[] #[.pointer (some ⟨B, 0, none⟩)]] w fun e W' => ∃ v, e = .returned v ∧ W'.ownsRow w.heap.size 62 4 v (edgR rs).length (cellsS (edgR rs)) ∧ Below w.heap.size w W' := by
  obtain ⟨i0, hi0, hz0, hz1, hz2⟩ := info_parts Tryz.infoSeg
  have h1 : 1 ≤ n := by omega
  have hmx : Tryz.prog.follows .mixedOrders = true := by kernel_rfl
  have hseq := ringE_seq (n - 1) (by omega) B w.heap.size q rs w hB (Nat.le_refl _) hR
  refine callsIn_of_wp_marks Tryz.func101 rfl trivial ?_ rfl
  simp only [Tryz.ntmps101, List.size_toArray, List.length_cons, List.length_nil, Nat.reduceAdd, Nat.reduceSub, Array.replicate_succ, Array.replicate_zero, List.push_toArray, List.append_toArray, List.nil_append, List.cons_append]
  gi_wp2
  have M : Boxed (w.alloc (.cells #[.slice none 0 0] 58)) w.heap.size 58 (.slice none 0 0) := Lies.new w _ _
  have hB0 : Below w.heap.size w (w.alloc (.cells #[.slice none 0 0] 58)) := (by repeat (first | exact bw_refl _ | assumption | apply bw_drewN | apply bw_drew | apply bw_alloc | refine bw_set ?_ (by simp) _))
  have hsz : (w.alloc (.cells #[.slice none 0 0] 58)).heap.size = w.heap.size + 1 := by simp
  obtain ⟨W0, hW0⟩ : ∃ W0, w.alloc (.cells #[.slice none 0 0] 58) = W0 := ⟨_, rfl⟩
  rw [hW0] at M hB0 hsz ⊢
  clear hW0
  refine wpIn_rangeO rfl h1 (gf := 102) (lb := #[.pointer (some ⟨B, 0, none⟩)]) rfl trivial (enters_of Tryz.func102 (by kernel_rfl) rfl)
    hseq KT_t (KT_b (by omega)) hB0 (fun _ => rfl)
    (fun pre W => ((∃ vv, Boxed W w.heap.size 58 vv ∧ W.ownsRow w.heap.size 62 4 vv pre.length (cellsS pre) ∧ True)) ∧ Below w.heap.size w W)
    (OwnFrom.and (Own.from (holdsRow_own w.heap.size w.heap.size 58 62 4 (fun pre => pre.length) (fun pre => cellsS pre) (fun _ _ => True)) _) (ownFrom_below (Nat.le_refl _) (by omega)))
    ⟨⟨_, M, ⟨rfl, .inl ⟨rfl, rfl⟩⟩, trivial⟩, hB0⟩
    (fun x a' W => ∃ Bx, Lies Bx #[.int .i64 x.1.1, .int .i64 x.1.2, .int .i64 x.2.1, .int .i64 x.2.2] 62 W ∧ a' = { tmps := #[.slice none 0 0, .func (.func 102) #[] #[.pointer (some ⟨B, 0, none⟩)], .pointer (some ⟨w.heap.size, 0, none⟩), undef, .slice none 0 0, .pointer (some ⟨Bx, 0, none⟩), .func (.func 102) #[] #[.pointer (some ⟨B, 0, none⟩)], .agg #[.int .i64 x.1.1, .int .i64 x.1.2, .int .i64 x.2.1, .int .i64 x.2.2], undef, undef, undef, undef, undef], defers := [] })
    (fun x a' _ X Y row hs hg hr => by obtain ⟨Bx, e2, e3⟩ := hs; exact ⟨Bx, lies_own (β := Unit) Bx _ _ () X Y row e2 hg (fun r e => (hr r e).2), e3⟩)
    ?assign ?body ?done
  case assign =>
    rintro l pre x W K ⟨⟨vv, M0, hr0, _⟩, hB1⟩ hK
    unfold segE
    have hB3 : Below W.heap.size W (W.alloc (.cells #[.int .i64 x.1.1, .int .i64 x.1.2, .int .i64 x.2.1, .int .i64 x.2.2] 62)) := (by repeat (first | exact bw_refl _ | assumption | apply bw_drewN | apply bw_drew | apply bw_alloc | refine bw_set ?_ (by simp) _))
    gi_wp2
    exact hK _ _ ((KeepsOthers.alloc _ _).from _) (KT.of_below hB3 hB1.size) ⟨⟨vv, M0.alloc _, hr0.alloc _, trivial⟩, hB1.alloc hB1.size _⟩ ⟨W.heap.size, Lies.new W _ _, rfl⟩
  case body =>
    rintro l pre x a' W hl2 ⟨⟨vv, M0, hr0, _⟩, hB1⟩ ⟨Bx, bX, rfl⟩ hlt
    have c0 := M0.cell
    obtain ⟨cx0, cx1, cx2, cx3⟩ := bX.c4
    have h1' : 1 ≤ n - 1 - 1 := by omega
    have hzW := hB1.size
    gi_wp2_with (gi_at_builtin; refine wpListIn_append_own _ rfl _ _ 58 rfl w.heap.size 62 i0 _ 4 32 Tryz.underlying58 hi0 hz0 hz1 hz2 rfl (by decide) _ _ _ rfl (hr0.alloc _) ⟨W.heap.size, 0, none⟩ 1 1 (seg4 x.1 x.2) rfl rfl (World.news_of_block (cs := #[.int .i64 x.1.1, .int .i64 x.1.2, .int .i64 x.2.1, .int .i64 x.2.2]) (t := 62) (fr := (0, 0)) (heap_alloc_new W _)) (by simp [seg4, Value.oneCell']) (by simp [maxLen]; omega) (by omega) (by simp; omega) ?_; intro v' w1 hown' hgrow _; obtain ⟨g', cap', rfl⟩ := ownsRow_succ hown'; obtain ⟨hv1, hv2, hr2, hk2, hb2⟩ := M0.appended (by decide) hr0 hB1.size (by omega) hown' hgrow; have hc1 := hv1.cell; have hf1 := hv1.frozen)
    have hkt : KT w.heap.size W (w1.setCell ⟨w.heap.size, 0, none⟩ (.slice (some ⟨g', 0, none⟩) (pre.length + 1) cap')) := by
      refine ⟨hb2, fun k cs t ht h => ?_⟩
      have hk := (Array.getElem?_eq_some_iff.1 h).1
      have h2 : (W.alloc (.cells #[.int .i64 x.1.1, .int .i64 x.1.2, .int .i64 x.2.1, .int .i64 x.2.2] 62)).heap[k]? = some (.cells cs t (0, 0)) := (Below.heap_alloc W _ k hk).trans h
      have h3 : w1.heap[k]? = some (.cells cs t (0, 0)) := by
        refine (hgrow.block k (by simp; omega) (fun e => ?_)).trans h2
        rcases hr0.2 with ⟨e1, _⟩ | ⟨g0, c0', cur0, e1, _, hg0, _⟩
        · subst e1; cases e
        · subst e1
          have e' : k = g0 := Option.some.inj e
          rw [e', hg0] at h
          rcases ht with rfl | rfl <;> simp at h
      refine (Below.heap_setCell _ _ _ k (fun e => ?_)).trans h3
      have e' : k = w.heap.size := e
      rw [e', show W.heap[w.heap.size]? = _ from M0] at h
      rcases ht with rfl | rfl <;> simp at h
    exact ⟨hk2.from _, hkt, ⟨_, hv2, by rw [cellsS_append, List.length_append, List.length_singleton]; simpa [cellsS] using hr2, trivial⟩, hB1.trans hb2⟩
  case done =>
    rintro D W hD ⟨⟨vv, M0, hr0, _⟩, hB1⟩ hK
    have cR := M0.cell
    gi_wp2
    refine ⟨by simp, .inl ⟨_, _, rfl, run_takeDeferred hK, ?_⟩⟩
    exact ⟨vv, by simp [results, Tryz.results101, go_sem], vv, rfl, ownsRow_putObj hr0 _ hK rfl, hB1.trans (belowK_b (w := w) (Nat.le_refl _) _ D _ _ (by omega) hK rfl rfl)⟩
end Go.Proofs.YtmdjhoknlplecaaGreatDoor
namespace Go.Proofs.YtmdjhoknlplecaaGreatDoor
open Go.RowKit Go.Sort

/-- The edges that are told of a loop. -/
def edgV (l : List P2) : List (P2 × P2) := if okV l then segsL l else []
theorem edgV_len (l : List P2) : (edgV l).length ≤ 8 := by
  unfold edgV
  cases h : okV l
  · simp
  · have := ((okV_iff l).1 h).hi; rw [if_pos rfl, segsL_len]; omega
theorem PtBlk.own {W : World} {g c n : Nat} {l : List P2} (h : PtBlk W g c l n) : Own W g (c * 2) 35 := by obtain ⟨cur, h, hs, _⟩ := h; exact ⟨cur, h, hs⟩
end Go.Proofs.YtmdjhoknlplecaaGreatDoor
namespace Go.Proofs.YtmdjhoknlplecaaGreatDoor
open Go.RowKit Go.Shelf Go.Sort

theorem collect_any (B : Nat) (q : Option Addr) (rs : List RingT) (w : World) (hB : w.cell? ⟨B, 0, none⟩ = some (.pointer q)) (hR : RingN w.heap.size w q rs) (hes : (edgR rs).length ≤ 1000) :
    Calls Tryz.prog 65 #[.func (.func 102) #[] #[.pointer (some ⟨B, 0, none⟩)]] w fun e W' => ∃ v, e = .returned v ∧ W'.ownsRow w.heap.size 62 4 v (edgR rs).length (cellsS (edgR rs)) ∧ Below w.heap.size w W' := by
  have hcall := callsIn_wide.1 (appendSeq_in 10 (Nat.le_refl _) B q rs w hB hR hes)
  go_enter Tryz.func65, Tryz.ntmps65
  go_wp2_with fail
  refine hcall.mono ?_
  rintro e w1 ⟨v, rfl, ho, J⟩
  go_wp2_with fail
  go_ret
  exact ⟨v, rfl, ho, J⟩
set_option maxRecDepth 100000 in
set_option maxHeartbeats 2000000 in
theorem plateEdges_ans (a ah : Option Addr) (la ca nh ch : Nat) (o : List P2) (hs : List (List P2)) (w : World) (h : Plt w a la ah nh o hs) :
    Calls Tryz.prog 29 #[.agg #[.slice a la ca, .slice ah nh ch]] w fun e W' => ∃ v, e = .returned v ∧ AnsS w.heap.size W'.heap.size W' v (plE o hs) ∧ Below w.heap.size w W' := by
  have B0 : Below w.heap.size w (w.alloc (.cells #[.slice a la ca, .slice ah nh ch] 33)) := (by repeat (first | exact bw_refl _ | assumption | apply bw_drewN | apply bw_drew | apply bw_alloc | refine bw_set ?_ (by simp) _))
  have hlen := plE_len o hs
  cases hv : plV o hs
  · go_enter Tryz.func29, Tryz.ntmps29
    go_wp2_with fail
    refine (board_any a ah la ca nh ch o hs _ (h.below B0)).mono ?_
    rw [hv]
    rintro e w1 ⟨p, rfl, J, _⟩
    go_wp2_with fail
    go_ret
    exact ⟨_, rfl, .inl ⟨by unfold plE; rw [hv]; rfl, _, _, rfl⟩, bw_trans B0 J⟩
  · have hE : plE o hs = segsL o ++ hs.flatMap segsL := by unfold plE; rw [hv]; rfl
    go_enter Tryz.func29, Tryz.ntmps29
    go_wp2_with fail
    refine (board_any a ah la ca nh ch o hs _ (h.below B0)).mono ?_
    rintro e w1 ⟨p, rfl, J, hR⟩
    obtain ⟨b, xs, rfl, hR, hx⟩ := hR hv
    rw [hv]
    have K1 := bw_trans B0 J
    have hedg := edgR_eq ⟨a, la, ca, o⟩ xs hs hx
    rw [← hE] at hedg
    go_wp2_with fail
    refine (callsIn_wide.1 (ringEdges_in 10 (some ⟨b, 0, none⟩) w1)).mono ?_
    rintro e w2 ⟨rfl, rfl⟩
    have B1 : Below w1.heap.size w1 (w1.alloc (.cells #[.pointer (some ⟨b, 0, none⟩)] 110)) := (by repeat (first | exact bw_refl _ | assumption | apply bw_drewN | apply bw_drew | apply bw_alloc | refine bw_set ?_ (by simp) _))
    have hRN := RingL.ringN (Nat.le_refl _) (RingL.grow B1.size (RingL.below B1 (Nat.le_refl _) hR))
    go_wp2_with fail
    refine (collect_any w1.heap.size (some ⟨b, 0, none⟩) (⟨a, la, ca, o⟩ :: xs) _ (Lies.c1 (Lies.new w1 _ _)) hRN (by rw [hedg]; omega)).mono ?_
    rw [hedg]
    rintro e w3 ⟨v, rfl, ho, J3⟩
    go_wp2_with fail
    go_ret
    have zz := K1.size
    exact ⟨v, rfl, ansS_mono (AnsS.of_owns ho rfl) (by simp; omega), bw_trans K1 (bw_trans B1 J3)⟩
end Go.Proofs.YtmdjhoknlplecaaGreatDoor
namespace Go.Proofs.YtmdjhoknlplecaaGreatDoor
open Go.RowKit Go.Sort

theorem sEdges_pts (a1 : Option Addr) (len1 cap1 : Nat) (l1 : List P2) (ok1 : okV l1 = true) (w : World) (hP1 : Pts w.heap.size w a1 len1 l1) :
    Calls Tryz.prog 77 #[.slice a1 len1 cap1] w fun e w' => ∃ g c, e = .returned (.slice (some ⟨g, 0, none⟩) len1 c) ∧ w'.ownsRow w.heap.size 62 4 (.slice (some ⟨g, 0, none⟩) len1 c) len1 (cellsS (segsL l1)) ∧ Below w.heap.size w w' := by
  have h1 := okV_pos ok1
  obtain ⟨e1, c1⟩ := hP1
  rcases c1 with h0 | ⟨b1, off1, rfl, hb1, hc1⟩
  · omega
  refine (sEdges_ok b1 off1 len1 cap1 l1 w e1 (by omega) (by omega) hb1 hc1).mono ?_
  rintro e w' ⟨v, rfl, ho, J⟩
  rw [← e1, ← segsL_cells, e1] at ho
  have ho' := ho
  rcases ho.2 with ⟨_, h0⟩ | ⟨g, c, cur, rfl, _⟩
  · omega
  · exact ⟨g, c, rfl, ho', J⟩
theorem cellsS_one (ss : List (P2 × P2)) : ∀ u ∈ cellsS ss, u.oneCell' = true := by
  intro u hu
  simp only [cellsS, List.mem_flatMap, seg4] at hu
  obtain ⟨s, _, hs⟩ := hu
  simp at hs
  rcases hs with rfl | rfl | rfl | rfl <;> rfl
set_option maxRecDepth 100000 in
set_option maxHeartbeats 4000000 in
theorem l11Edges_ok (a ah : Option Addr) (la ca nh ch : Nat) (o : List P2) (hs : List (List P2)) (hv : plV o hs = true) (w : World) (h : Plt w a la ah nh o hs) :
    Calls Tryz.prog 37 #[.agg #[.slice a la ca, .slice ah nh ch]] w fun e W' => ∃ v, e = .returned v ∧ W'.ownsRow w.heap.size 62 4 v (plE o hs).length (cellsS (plE o hs)) ∧ Below w.heap.size w W' := by
  obtain ⟨i0, hi0, hz0, hz1, hz2⟩ := info_parts Tryz.infoSeg
  obtain ⟨W, hW, BW, TP⟩ : ∃ W, W = w.alloc (.cells #[.slice a la ca, .slice ah nh ch] 33) ∧ Below w.heap.size w W ∧ W.heap[w.heap.size]? = some (.cells #[.slice a la ca, .slice ah nh ch] 33 (0, 0)) := ⟨_, rfl, (by repeat (first | exact bw_refl _ | assumption | apply bw_drewN | apply bw_drew | apply bw_alloc | refine bw_set ?_ (by simp) _)), heap_new _ _⟩
  have hPV := (plV_iff o hs).1 hv
  obtain ⟨hla, hP, hlen, A, L, C, hS, hH⟩ := h.below BW
  have HO := sEdges_pts a la ca o hPV.out W hP
  have HOK : Hid (∀ j, j < nh → okV (hs[j]?.getD []) = true) := fun j hj => hPV.ok _ (by rw [List.getElem?_eq_getElem (by omega), Option.getD_some]; exact List.getElem_mem _)
  have HE : Hid (plE o hs = segsL o ++ (hs.take nh).flatMap segsL) := by change _ = _; unfold plE; rw [hv, if_pos rfl, ← hlen, List.take_length]
  have HT : Hid (∀ k, k < nh → (hs.take (k + 1)).flatMap segsL = (hs.take k).flatMap segsL ++ segsL (hs[k]?.getD [])) := fun k hk => by
    rw [List.take_add_one, List.flatMap_append, List.getElem?_eq_getElem (by omega)]; simp
  have HB : Hid (∀ k, k ≤ nh → (segsL o ++ (hs.take k).flatMap segsL).length ≤ 24) := fun k hk => by
    have h0 := (okV_pos hPV.out).2
    have h2 := flat_len (hs.take k) (fun x hx => (okV_pos (hPV.ok x (List.mem_of_mem_take hx))).2)
    have h3 := hPV.len
    rw [List.length_append, segsL_len]; rw [List.length_take] at h2; omega
  have hl0 : Hid (la = (segsL o).length) := by change _ = _; rw [segsL_len]; exact hP.1.symm
  have hnh : nh ≤ 2 := by have := hPV.len; omega
  clear hlen hPV hv h
  obtain ⟨t0, t1⟩ := blk_2 TP
  have zP := blk_lt TP
  go_enter Tryz.func37, Tryz.ntmps37
  go_upto_region 1 with fail
  rw [← hW]
  clear hW
  go_wp2_with fail
  refine HO.mono ?_
  rintro e v ⟨g0, c0, rfl, ho0, J⟩
  have ho1 : v.ownsRow W.heap.size 62 4 (.slice (some ⟨g0, 0, none⟩) la c0) (segsL o ++ (hs.take 0).flatMap segsL).length (cellsS (segsL o ++ (hs.take 0).flatMap segsL)) := by
    have e0 := hl0.out; simp only [List.take_zero, List.flatMap_nil, List.append_nil]; rw [← e0]; exact ho0
  clear HO t0 t1 ho0
  go_wp2_with fail
  go_loopw [3, 4] (fun out i wr => ∃ k : Nat, k ≤ nh ∧ i = .int .i64 k ∧ wr.ownsRow W.heap.size 62 4 out (segsL o ++ (hs.take k).flatMap segsL).length (cellsS (segsL o ++ (hs.take k).flatMap segsL)) ∧ Below W.heap.size W wr) (fun _ i _ => nh - (intOf i).toNat)
  case atStart => exact ⟨0, Nat.zero_le _, rfl, ho1, J⟩
  case round =>
    obtain ⟨k, hk, rfl, hown, hnx⟩ := hrel
    obtain ⟨t0, t1⟩ := blk_2 (keep hnx TP)
    have zz := hnx.size
    by_cases hlt : k < nh
    case neg =>
      obtain rfl : nh = k := by omega
      rw [← HE.out] at hown
      go_wp2_with fail
      go_ret
      exact ⟨_, rfl, own_base hown BW.size, bw_trans BW hnx⟩
    case pos =>
      rcases hS.below hnx with h0 | ⟨b, off, rfl, hbl, hcs⟩
      · omega
      have c1 := hcs k hlt
      clear hcs
      have j0 : (0 : Int) ≤ (k : Int) := Int.natCast_nonneg _
      have j1 : (k : Int) < (nh : Int) := by omega
      obtain ⟨hLk, hPk⟩ := hH k hlt
      have hokk := HOK.out k hlt
      have hcall := sEdges_pts (A k) (L k) (C k) _ hokk wr ((hPk.below hnx).grow hnx.size)
      have hlk : (segsL (hs[k]?.getD [])).length = L k := by rw [segsL_len]; exact hPk.1
      have hbk := HB.out k hk
      have hbk1 := HB.out (k + 1) hlt
      rw [HT.out k hlt, ← List.append_assoc, List.length_append, hlk] at hbk1
      have hl1 : (segsL o ++ (hs.take k).flatMap segsL).length + L k = (segsL o ++ (hs.take (k + 1)).flatMap segsL).length := by rw [HT.out k hlt, ← List.append_assoc, List.length_append (bs := segsL _), hlk]
      have hc1 : cellsS (segsL o ++ (hs.take (k + 1)).flatMap segsL) = cellsS (segsL o ++ (hs.take k).flatMap segsL) ++ cellsS (segsL (hs[k]?.getD [])) := by rw [HT.out k hlt, ← List.append_assoc, cellsS_append _ (segsL _)]
      have HL1 : Hid ((segsL o ++ (hs.take k).flatMap segsL).length + L k = (segsL o ++ (hs.take (k + 1)).flatMap segsL).length) := hl1
      have HC1 : Hid (cellsS (segsL o ++ (hs.take (k + 1)).flatMap segsL) = cellsS (segsL o ++ (hs.take k).flatMap segsL) ++ cellsS (segsL (hs[k]?.getD []))) := hc1
      have HLK : Hid ((cellsS (segsL (hs[k]?.getD []))).length = L k * 4) := by change _ = _; rw [cellsS_len, hlk]
      have hm1 : (segsL o ++ (hs.take k).flatMap segsL).length + L k ≤ 24 := by rw [hl1]; exact HB.out (k + 1) hlt
      clear hl1 hc1 hbk1 hlk
      go_wp2_with (first
        | (go_at_call 77; refine hcall.mono ?_; rintro e w7 ⟨g7, c7, rfl, ho7, J7⟩; have hown7 := hown.kept (w' := w7) (row := none) ⟨J7.os, J7.tape, J7.output, J7.size, fun j hj _ => J7.block j hj⟩ (Classical.em _); have hn7 := bw_trans hnx J7; have zz7 := hn7.size)
        | (at_builtin; refine wpList_append_own_wide _ rfl _ _ _ rfl W.heap.size 62 i0 _ 4 32 Tryz.underlying58 hi0 hz0 hz1 hz2 rfl (by omega) _ _ _ rfl hown7 ⟨g7, 0, none⟩ (L k) c7 (cellsS (segsL (hs[k]?.getD []))) rfl HLK.out (ho7.cells (g := g7) rfl) (cellsS_one _) (by simp [maxLen] at hm1 ⊢; omega) (by omega) (by omega) ?_; intro v8 w8 hown8 hgr8 hnil8))
      go_roundw
      case rel => exact ⟨k + 1, by omega, by simp, by rw [← HL1.out, HC1.out]; exact hown8, hn7.grown hgr8 zz7 (fun j e => (hown7.lt j e).1)⟩
      case measure => simp [intOf]; omega
end Go.Proofs.YtmdjhoknlplecaaGreatDoor
namespace Go.Proofs.YtmdjhoknlplecaaGreatDoor
open Go.RowKit Go.Sort

theorem cT6 {W : World} {p m n k l : Nat} {x y z u : Value} {a0 a1 a2 a3 a4 a5 : Addr} {v0 v1 v2 v3 v4 v5 : Value} (h : W.cell? a0 = some v0 ∧ W.cell? a1 = some v1 ∧ W.cell? a2 = some v2 ∧ W.cell? a3 = some v3 ∧ W.cell? a4 = some v4 ∧ W.cell? a5 = some v5) (n0 : a0.block ≠ p) (n1 : a1.block ≠ p) (n2 : a2.block ≠ p) (n3 : a3.block ≠ p) (n4 : a4.block ≠ p) (n5 : a5.block ≠ p) : ((((W.setCell ⟨p, m, none⟩ x).setCell ⟨p, n, none⟩ y).setCell ⟨p, k, none⟩ z).setCell ⟨p, l, none⟩ u).cell? a0 = some v0 ∧ ((((W.setCell ⟨p, m, none⟩ x).setCell ⟨p, n, none⟩ y).setCell ⟨p, k, none⟩ z).setCell ⟨p, l, none⟩ u).cell? a1 = some v1 ∧ ((((W.setCell ⟨p, m, none⟩ x).setCell ⟨p, n, none⟩ y).setCell ⟨p, k, none⟩ z).setCell ⟨p, l, none⟩ u).cell? a2 = some v2 ∧ ((((W.setCell ⟨p, m, none⟩ x).setCell ⟨p, n, none⟩ y).setCell ⟨p, k, none⟩ z).setCell ⟨p, l, none⟩ u).cell? a3 = some v3 ∧ ((((W.setCell ⟨p, m, none⟩ x).setCell ⟨p, n, none⟩ y).setCell ⟨p, k, none⟩ z).setCell ⟨p, l, none⟩ u).cell? a4 = some v4 ∧ ((((W.setCell ⟨p, m, none⟩ x).setCell ⟨p, n, none⟩ y).setCell ⟨p, k, none⟩ z).setCell ⟨p, l, none⟩ u).cell? a5 = some v5 := cS6 (cS6 h n0 n1 n2 n3 n4 n5) n0 n1 n2 n3 n4 n5
theorem cellL {W : World} {o o' : Obj} {a : Addr} {v : Value} (h : (W.alloc o).cell? a = some v) (hb : a.block < W.heap.size) : (W.alloc o').cell? a = some v := by
  rw [← h]
  exact World.cell?_of_block (w := W.alloc o) ((heap_old W o' hb).trans (heap_old W o hb).symm)
theorem cL6 {W : World} {o o' : Obj} {a0 a1 a2 a3 a4 a5 : Addr} {v0 v1 v2 v3 v4 v5 : Value} (h : (W.alloc o).cell? a0 = some v0 ∧ (W.alloc o).cell? a1 = some v1 ∧ (W.alloc o).cell? a2 = some v2 ∧ (W.alloc o).cell? a3 = some v3 ∧ (W.alloc o).cell? a4 = some v4 ∧ (W.alloc o).cell? a5 = some v5) (n0 : a0.block < W.heap.size) (n1 : a1.block < W.heap.size) (n2 : a2.block < W.heap.size) (n3 : a3.block < W.heap.size) (n4 : a4.block < W.heap.size) (n5 : a5.block < W.heap.size) : (W.alloc o').cell? a0 = some v0 ∧ (W.alloc o').cell? a1 = some v1 ∧ (W.alloc o').cell? a2 = some v2 ∧ (W.alloc o').cell? a3 = some v3 ∧ (W.alloc o').cell? a4 = some v4 ∧ (W.alloc o').cell? a5 = some v5 :=
  ⟨cellL h.1 n0, cellL h.2.1 n1, cellL h.2.2.1 n2, cellL h.2.2.2.1 n3, cellL h.2.2.2.2.1 n4, cellL h.2.2.2.2.2 n5⟩
theorem cL8 {W : World} {o o' : Obj} {a0 a1 a2 a3 a4 a5 a6 a7 : Addr} {v0 v1 v2 v3 v4 v5 v6 v7 : Value} (h : (W.alloc o).cell? a0 = some v0 ∧ (W.alloc o).cell? a1 = some v1 ∧ (W.alloc o).cell? a2 = some v2 ∧ (W.alloc o).cell? a3 = some v3 ∧ (W.alloc o).cell? a4 = some v4 ∧ (W.alloc o).cell? a5 = some v5 ∧ (W.alloc o).cell? a6 = some v6 ∧ (W.alloc o).cell? a7 = some v7) (n0 : a0.block < W.heap.size) (n1 : a1.block < W.heap.size) (n2 : a2.block < W.heap.size) (n3 : a3.block < W.heap.size) (n4 : a4.block < W.heap.size) (n5 : a5.block < W.heap.size) (n6 : a6.block < W.heap.size) (n7 : a7.block < W.heap.size) : (W.alloc o').cell? a0 = some v0 ∧ (W.alloc o').cell? a1 = some v1 ∧ (W.alloc o').cell? a2 = some v2 ∧ (W.alloc o').cell? a3 = some v3 ∧ (W.alloc o').cell? a4 = some v4 ∧ (W.alloc o').cell? a5 = some v5 ∧ (W.alloc o').cell? a6 = some v6 ∧ (W.alloc o').cell? a7 = some v7 :=
  ⟨cellL h.1 n0, cellL h.2.1 n1, cellL h.2.2.1 n2, cellL h.2.2.2.1 n3, cellL h.2.2.2.2.1 n4, cellL h.2.2.2.2.2.1 n5, cellL h.2.2.2.2.2.2.1 n6, cellL h.2.2.2.2.2.2.2 n7⟩
end Go.Proofs.YtmdjhoknlplecaaGreatDoor
namespace Go.Proofs.YtmdjhoknlplecaaGreatDoor
open Go.RowKit Go.Sort

theorem inR_r (r : Int) : inR r 1 9 = rV r := by
  unfold rV; rw [Bool.eq_iff_iff]; simp [inR]
set_option maxHeartbeats 1000000 in
theorem sNear_any (ax ay bx b_y px py r : Int) (w : World) (hr : 1 ≤ r ∧ r ≤ 9) (gs : sgB ax ay bx b_y = true) (gp : ptB px py = true) :
    Calls Tryz.prog 75 #[.agg #[.int .i64 ax, .int .i64 ay, .int .i64 bx, .int .i64 b_y], .int .i64 r, .agg #[.int .i64 px, .int .i64 py]] w fun e w' => e = .returned (.bool (nearI ((ax, ay), (bx, b_y)) r (px, py))) ∧ Below w.heap.size w w' := by
  obtain ⟨pa, pb, _⟩ := sg_parts gs
  obtain ⟨r1, r9⟩ := hr
  unfold nearI
  dsimp only
  by_cases h : dt ax ay bx b_y px py ≤ 0
  · rw [if_pos h]
    go_enter Tryz.func75, Tryz.ntmps75
    go_wp2_with fail
    refine (sDot_any _ _ _ _ _ _ _ pa pb gp).mono ?_
    rintro e w1 ⟨rfl, J⟩
    obtain ⟨hc, hf⟩ := bcell J
    go_wp2_with fail
    refine (sDot_any _ _ _ _ _ _ _ pa pb pb).mono ?_
    rintro e w1 ⟨rfl, J2⟩
    replace J := bw_trans J J2
    clear hc hf J2
    obtain ⟨hc, hf⟩ := bcell J
    go_wp2_with fail
    refine (sDot_any _ _ _ _ _ _ _ pa gp gp).mono ?_
    rintro e w1 ⟨rfl, J2⟩
    replace J := bw_trans J J2
    clear hc hf J2
    obtain ⟨hc, hf⟩ := bcell J
    go_wp2_with fail
    go_ret
    exact ⟨rfl, bw_trans (by repeat (first | exact bw_refl _ | assumption | apply bw_drewN | apply bw_drew | apply bw_alloc | refine bw_set ?_ (by simp) _)) J⟩
  · rw [if_neg h]
    by_cases h2 : dt ax ay bx b_y bx b_y ≤ dt ax ay bx b_y px py
    · rw [if_pos h2]
      go_enter Tryz.func75, Tryz.ntmps75
      go_wp2_with fail
      refine (sDot_any _ _ _ _ _ _ _ pa pb gp).mono ?_
      rintro e w1 ⟨rfl, J⟩
      obtain ⟨hc, hf⟩ := bcell J
      go_wp2_with fail
      refine (sDot_any _ _ _ _ _ _ _ pa pb pb).mono ?_
      rintro e w1 ⟨rfl, J2⟩
      replace J := bw_trans J J2
      clear hc hf J2
      obtain ⟨hc, hf⟩ := bcell J
      go_wp2_with fail
      refine (sDot_any _ _ _ _ _ _ _ pb gp gp).mono ?_
      rintro e w1 ⟨rfl, J2⟩
      replace J := bw_trans J J2
      clear hc hf J2
      obtain ⟨hc, hf⟩ := bcell J
      go_wp2_with fail
      go_ret
      exact ⟨rfl, bw_trans (by repeat (first | exact bw_refl _ | assumption | apply bw_drewN | apply bw_drew | apply bw_alloc | refine bw_set ?_ (by simp) _)) J⟩
    · rw [if_neg h2]
      have d1 := crs_bd pa pb gp
      have d2 := prod_bd2 d1.1 d1.2 d1.1 d1.2
      have d3 := dt_bd pa pb pb
      have d4 : 0 < dt ax ay bx b_y bx b_y := dt_self_pos (sg_parts gs).2.2
      have d5 : IntKind.i64.wrap (crs ax ay bx b_y px py * crs ax ay bx b_y px py) = crs ax ay bx b_y px py * crs ax ay bx b_y px py := wrap_small (by omega) (by omega)
      have d6 : IntKind.i64.wrap (r * dt ax ay bx b_y bx b_y) = r * dt ax ay bx b_y bx b_y := by
        have e1 := Int.mul_le_mul_of_nonneg_right r9 (show 0 ≤ dt ax ay bx b_y bx b_y by omega)
        have e2 := Int.mul_nonneg (show 0 ≤ r by omega) (show 0 ≤ dt ax ay bx b_y bx b_y by omega)
        exact wrap_small (by omega) (by omega)
      go_enter Tryz.func75, Tryz.ntmps75
      go_wp2_with fail
      refine (sDot_any _ _ _ _ _ _ _ pa pb gp).mono ?_
      rintro e w1 ⟨rfl, J⟩
      obtain ⟨hc, hf⟩ := bcell J
      go_wp2_with fail
      refine (sDot_any _ _ _ _ _ _ _ pa pb pb).mono ?_
      rintro e w1 ⟨rfl, J2⟩
      replace J := bw_trans J J2
      clear hc hf J2
      obtain ⟨hc, hf⟩ := bcell J
      go_wp2_with fail
      refine (sCross_any _ _ _ _ _ _ _ pa pb gp).mono ?_
      rintro e w1 ⟨rfl, J2⟩
      replace J := bw_trans J J2
      clear hc hf J2
      obtain ⟨hc, hf⟩ := bcell J
      go_wp2_with fail
      go_ret
      exact ⟨rfl, bw_trans (by repeat (first | exact bw_refl _ | assumption | apply bw_drewN | apply bw_drew | apply bw_alloc | refine bw_set ?_ (by simp) _)) J⟩
end Go.Proofs.YtmdjhoknlplecaaGreatDoor
namespace Go.Proofs.YtmdjhoknlplecaaGreatDoor
open Go.RowKit Go.Sort

set_option maxRecDepth 100000 in
set_option maxHeartbeats 4000000 in
theorem sFits_ok (a ah : Option Addr) (la ca nh ch : Nat) (o : List P2) (hs : List (List P2)) (g len cap : Nat) (ss : List (P2 × P2)) (r : Int) (p : P2) (w : World) (h : Plt w a la ah nh o hs) (hv : plV o hs = true) (hr : rV r = true) (hp : ptB p.1 p.2 = true) (hS : SRow w g ss) (zg : g < w.heap.size) (hl : ss.length = len) (h2 : len ≤ 1000) (hok : ∀ s ∈ ss, sgP s.1 s.2 = true) :
    Calls Tryz.prog 36 #[.agg #[.slice a la ca, .slice ah nh ch], .slice (some ⟨g, 0, none⟩) len cap, .int .i64 r, .agg #[.int .i64 p.1, .int .i64 p.2]] w fun e W' => e = .returned (.bool ((ss.all fun s => !nearI s r p) && decide (plI o hs p = 1))) ∧ Below w.heap.size w W' := by
  obtain ⟨W, hW, BW, TP, T⟩ := boxes2 w (.cells #[.slice a la ca, .slice ah nh ch] 33) (.cells #[.int .i64 p.1, .int .i64 p.2] 35)
  have hr' := (rV_iff r).1 hr
  obtain ⟨F, hF⟩ : ∃ F : Nat → Bool, F = fun k => nearI (sAt ss k) r p := ⟨_, rfl⟩
  have HF : Hid (∀ k, k < len → ∀ w, Calls Tryz.prog 75 #[.agg #[.int .i64 (sAt ss k).1.1, .int .i64 (sAt ss k).1.2, .int .i64 (sAt ss k).2.1, .int .i64 (sAt ss k).2.2], .int .i64 r, .agg #[.int .i64 p.1, .int .i64 p.2]] w fun e w' => e = .returned (.bool (F k)) ∧ Below w.heap.size w w') := fun k hk w => by
    rw [hF]
    exact sNear_any _ _ _ _ _ _ r w hr' (hok _ (sAt_mem (by omega))) hp
  have HA : Hid ((ss.all fun s => !nearI s r p) = true ↔ ∀ k, k < len → F k = false) := by
    change _ ↔ _
    rw [hF, List.all_eq_true]
    constructor
    · intro h k hk; simpa using h _ (sAt_mem (show k < ss.length by omega))
    · intro h s hs
      obtain ⟨k, hk, rfl⟩ := List.getElem_of_mem hs
      have this : nearI (sAt ss k) r p = false := h k (by omega)
      rw [show sAt ss k = ss[k] by unfold sAt; rw [List.getElem?_eq_getElem hk, Option.getD_some]] at this
      rw [this]; rfl
  have HS : Hid (∀ k, k < len → w.cell? ⟨g, k * 4, none⟩ = some (.int .i64 (sAt ss k).1.1) ∧ w.cell? ⟨g, k * 4 + 1, none⟩ = some (.int .i64 (sAt ss k).1.2) ∧ w.cell? ⟨g, k * 4 + 2, none⟩ = some (.int .i64 (sAt ss k).2.1) ∧ w.cell? ⟨g, k * 4 + 3, none⟩ = some (.int .i64 (sAt ss k).2.2)) := fun k hk => hS k (by omega)
  have HP : Hid (∀ V, Below w.heap.size w V → Calls Tryz.prog 76 #[.agg #[.slice a la ca, .slice ah nh ch], .agg #[.int .i64 p.1, .int .i64 p.2]] V fun e W' => e = .returned (.int .i64 (plI o hs p)) ∧ Below V.heap.size V W') := fun V hV => sPlI_ok a ah la ca nh ch o hs p hv hp V (h.below hV)
  generalize (ss.all fun s => !nearI s r p) = al at *
  generalize plI o hs p = u at *
  clear hF hok hl hS hr hv h hp
  go_enter Tryz.func36, Tryz.ntmps36
  go_upto_region 1 with fail
  rw [← hW]
  clear hW
  go_wp2_with fail
  go_loopw [9] (fun i wr => ∃ k : Nat, k ≤ len ∧ i = .int .i64 k ∧ (∀ j, j < k → F j = false) ∧ Below W.heap.size W wr) (fun i _ => len - (intOf i).toNat)
  case atStart => exact ⟨0, Nat.zero_le _, rfl, fun j hj => absurd hj (Nat.not_lt_zero _), bw_refl _⟩
  case round =>
    obtain ⟨k, hk, rfl, hb, hnx⟩ := hrel
    have HB : Hid (∀ j, j < k → F j = false) := hb
    clear hb
    have KW := bw_trans BW hnx
    have zn := hnx.size
    by_cases hlt : k < len
    case pos =>
      obtain ⟨s0, s1, s2, s3⟩ := HS.out k hlt
      obtain ⟨d0, d1, d2, d3⟩ := regrow4 ⟨(KW.cell (p := ⟨g, k * 4, none⟩) zg).trans s0, (KW.cell (p := ⟨g, k * 4 + 1, none⟩) zg).trans s1, (KW.cell (p := ⟨g, k * 4 + 2, none⟩) zg).trans s2, (KW.cell (p := ⟨g, k * 4 + 3, none⟩) zg).trans s3⟩
      obtain ⟨t0, t1⟩ := reg_2 (keep hnx T)
      have i0 : (0 : Int) ≤ (k : Int) := Int.natCast_nonneg _
      have i1 : (k : Int) < (len : Int) := by omega
      have i2 : (k : Int) ≤ 1000 := by omega
      have hX := HF.out k hlt
      have HX : Hid (∀ w, Calls Tryz.prog 75 #[.agg #[.int .i64 (sAt ss k).1.1, .int .i64 (sAt ss k).1.2, .int .i64 (sAt ss k).2.1, .int .i64 (sAt ss k).2.2], .int .i64 r, .agg #[.int .i64 p.1, .int .i64 p.2]] w fun e w' => e = .returned (.bool (F k)) ∧ Below w.heap.size w w') := hX
      clear hX s0 s1 s2 s3
      obtain ⟨bk, hbk⟩ : ∃ bk, F k = bk := ⟨_, rfl⟩
      have HK : Hid (F k = bk) := hbk
      rw [hbk] at HX
      clear hbk
      cases bk
      · go_wp2_with fail
        refine wp_region_quiet_below (by kernel_rfl) (by kernel_rfl) ?_
        repeat (first | go_big_quiet_step (first | (go_at_call 75; with_reducible exact Calls.regrown_of (HX.out _))))
        refine wpQuiet_nil ?_
        intro _ hw'
        obtain ⟨⟨dq, osq⟩, hw''⟩ := hw'
        subst hw''
        have J := below_regrown wr dq osq
        generalize grow (redrawn wr dq) osq = v2 at J ⊢
        go_wp2_with fail
        go_roundw
        case rel =>
          refine ⟨k + 1, by omega, by simp, fun j hj => ?_, bw_trans hnx J⟩
          rcases Nat.lt_or_ge j k with hjk | hjk
          · exact HB.out j hjk
          · obtain rfl : j = k := by omega
            exact HK.out
        case measure => simp [intOf]; omega
      · have e1 : Hid (al = false) := by
          change _ = _
          rw [Bool.eq_false_iff]
          intro hc
          have := HA.out.1 hc k hlt
          rw [HK.out] at this; cases this
        go_wp2_with fail
        refine wp_region_quiet_below (by kernel_rfl) (by kernel_rfl) ?_
        repeat (first | go_big_quiet_step (first | (go_at_call 75; with_reducible exact Calls.regrown_of (HX.out _))))
        refine wpQuiet_nil ?_
        intro _ hw'
        obtain ⟨⟨dq, osq⟩, hw''⟩ := hw'
        subst hw''
        have J := below_regrown wr dq osq
        generalize grow (redrawn wr dq) osq = v2 at J ⊢
        go_wp2_with fail
        go_ret
        exact ⟨by rw [e1.out]; rfl, bw_trans KW J⟩
    case neg =>
      obtain rfl : len = k := by omega
      have e1 : Hid (al = true) := HA.out.2 HB.out
      have hc := HP.out wr KW
      obtain ⟨p0, p1⟩ := blk_2 (keep hnx TP)
      obtain ⟨t0, t1⟩ := blk_2 (keep hnx T)
      clear HA HF HB
      go_wp2_with fail
      refine hc.mono ?_
      rintro e v2 ⟨rfl, J⟩
      go_wp2_with fail
      go_ret
      exact ⟨by rw [e1.out]; first | rfl | simp, bw_trans KW J⟩
end Go.Proofs.YtmdjhoknlplecaaGreatDoor
namespace Go.Proofs.YtmdjhoknlplecaaGreatDoor
open Go.RowKit Go.Sort

/-- A row of edges that a call made itself. -/
theorem row_of_owns' {base : Nat} {W : World} {v : Value} {ss : List (P2 × P2)} (h : W.ownsRow base 62 4 v ss.length (cellsS ss)) (hs : 0 < ss.length) : ∃ g c, v = .slice (some ⟨g, 0, none⟩) ss.length c ∧ g < W.heap.size ∧ SRow W g ss := by
  have := AnsS.of_owns h rfl
  rcases this with ⟨rfl, a, c, rfl⟩ | ⟨g, c, rfl, _, _, _, hO, hS⟩
  · simp at hs
  · exact ⟨g, c, rfl, hO.lt, hS⟩
set_option maxRecDepth 100000 in
set_option maxHeartbeats 4000000 in
theorem sToolFits_any (a ah : Option Addr) (la ca nh ch : Nat) (o : List P2) (hs : List (List P2)) (r : Int) (p : P2) (w : World) (h : Plt w a la ah nh o hs) :
    Calls Tryz.prog 12 #[.agg #[.slice a la ca, .slice ah nh ch], .int .i64 r, .agg #[.int .i64 p.1, .int .i64 p.2]] w fun e W' => e = .returned (.bool (fitV o hs r p)) ∧ Below w.heap.size w W' := by
  obtain ⟨W, hW, BW, TP, T⟩ := boxes2 w (.cells #[.slice a la ca, .slice ah nh ch] 33) (.cells #[.int .i64 p.1, .int .i64 p.2] 35)
  have hh := h.below BW
  have zP := blk_lt TP
  have zT := blk_lt T
  have hOk := fun d os => sPlateOk_any a ah la ca nh ch o hs _ (hh.below (below_regrown W d os))
  have hIn := fun V => in_any r 1 9 V
  rw [inR_r] at hIn
  have hPt := fun V => sPt_raw p V
  obtain ⟨t0, t1⟩ := reg_2 TP
  obtain ⟨u0, u1⟩ := reg_2 T
  have HO : Hid (∀ d os, Calls Tryz.prog 20 #[.agg #[.slice a la ca, .slice ah nh ch]] (grow (redrawn W d) os) fun e W' => e = .returned (.bool (plV o hs)) ∧ Below (grow (redrawn W d) os).heap.size (grow (redrawn W d) os) W') := hOk
  have HI : Hid (∀ V, Calls Tryz.prog 35 #[.int .i64 r, .int .i64 1, .int .i64 9] V fun e W' => e = .returned (.bool (rV r)) ∧ Below V.heap.size V W') := fun V => (hIn V).mono fun _ _ h => ⟨h.1, h.2 ▸ bw_refl _⟩
  have HQ : Hid (∀ V, Calls Tryz.prog 21 #[.agg #[.int .i64 p.1, .int .i64 p.2]] V fun e W' => e = .returned (.bool (ptB p.1 p.2)) ∧ Below V.heap.size V W') := hPt
  clear hOk hIn hPt
  cases hv : plV o hs
  · have e1 : Hid (fitV o hs r p = false) := by change _ = _; unfold fitV; rw [hv, Bool.and_false]; rfl
    rw [hv] at HO
    go_enter Tryz.func12, Tryz.ntmps12
    go_upto_region 1 with fail
    rw [← hW]
    clear hW
    refine wp_region_quiet_below (by kernel_rfl) (by kernel_rfl) ?_
    repeat (first | go_big_quiet_step (first | (go_at_call 20; with_reducible exact Calls.regrown_of (HO.out _ _))))
    refine wpQuiet_nil ?_
    intro _ hw'
    obtain ⟨⟨dq, osq⟩, hw''⟩ := hw'
    subst hw''
    have J := below_regrown W dq osq
    generalize grow (redrawn W dq) osq = v at J ⊢
    go_wp2_with fail
    go_ret
    exact ⟨by rw [e1.out]; first | rfl | simp, bw_trans BW J⟩
  rw [hv] at HO
  cases hr : rV r
  · have e1 : Hid (fitV o hs r p = false) := by change _ = _; unfold fitV; rw [hr]; rfl
    rw [hr] at HI
    go_enter Tryz.func12, Tryz.ntmps12
    go_upto_region 1 with fail
    rw [← hW]
    clear hW
    refine wp_region_quiet_below (by kernel_rfl) (by kernel_rfl) ?_
    repeat (first | go_big_quiet_step (first | (go_at_call 20; with_reducible exact Calls.regrown_of (HO.out _ _)) | (go_at_call 35; with_reducible exact Calls.regrown_of (HI.out _))))
    refine wpQuiet_nil ?_
    intro _ hw'
    obtain ⟨⟨dq, osq⟩, hw''⟩ := hw'
    subst hw''
    have J := below_regrown W dq osq
    generalize grow (redrawn W dq) osq = v at J ⊢
    go_wp2_with fail
    go_ret
    exact ⟨by rw [e1.out]; first | rfl | simp, bw_trans BW J⟩
  rw [hr] at HI
  cases hp : ptB p.1 p.2
  · have e1 : Hid (fitV o hs r p = false) := by change _ = _; unfold fitV; rw [hr, hv, hp]; rfl
    rw [hp] at HQ
    go_enter Tryz.func12, Tryz.ntmps12
    go_upto_region 1 with fail
    rw [← hW]
    clear hW
    refine wp_region_quiet_below (by kernel_rfl) (by kernel_rfl) ?_
    repeat (first | go_big_quiet_step (first | (go_at_call 20; with_reducible exact Calls.regrown_of (HO.out _ _)) | (go_at_call 35; with_reducible exact Calls.regrown_of (HI.out _)) | (go_at_call 21; with_reducible exact Calls.regrown_of (HQ.out _))))
    refine wpQuiet_nil ?_
    intro _ hw'
    obtain ⟨⟨dq, osq⟩, hw''⟩ := hw'
    subst hw''
    have J := below_regrown W dq osq
    generalize grow (redrawn W dq) osq = v at J ⊢
    go_wp2_with fail
    go_ret
    exact ⟨by rw [e1.out]; first | rfl | simp, bw_trans BW J⟩
  rw [hp] at HQ
  have e1 : Hid (fitV o hs r p = (((plE o hs).all fun s => !nearI s r p) && decide (plI o hs p = 1))) := by change _ = _; rw [fitV_ok hr hv hp]; exact fitI_all hr hv hp
  have n3 := plE_ne hv
  have n24 := plE_len o hs
  have hok : ∀ s ∈ plE o hs, sgP s.1 s.2 = true := fun s hs => plE_ok hv hs
  obtain ⟨N, hN⟩ : ∃ N, (plE o hs).length = N := ⟨_, rfl⟩
  have hOk2 : ∀ V, Below W.heap.size W V → Calls Tryz.prog 20 #[.agg #[.slice a la ca, .slice ah nh ch]] V fun e W' => e = .returned (.bool true) ∧ Below V.heap.size V W' := fun V hV => by have := sPlateOk_any a ah la ca nh ch o hs V (hh.below hV); rwa [hv] at this
  have hE : ∀ V, Below W.heap.size W V → Calls Tryz.prog 37 #[.agg #[.slice a la ca, .slice ah nh ch]] V _ := fun V hV => l11Edges_ok a ah la ca nh ch o hs hv V (hh.below hV)
  have hX : ∀ g c V, Below W.heap.size W V → SRow V g (plE o hs) → g < V.heap.size → Calls Tryz.prog 36 #[.agg #[.slice a la ca, .slice ah nh ch], .slice (some ⟨g, 0, none⟩) N c, .int .i64 r, .agg #[.int .i64 p.1, .int .i64 p.2]] V fun e W' => e = .returned (.bool (fitV o hs r p)) ∧ Below V.heap.size V W' := fun g c V hV hR hg => by
    have := sFits_ok a ah la ca nh ch o hs g N c (plE o hs) r p V (hh.below hV) hv hr hp hR hg hN (by omega) hok
    rw [e1.out]; exact this
  have hS0 : (fun w' : World => (w'.cell? ⟨w.heap.size, 0, none⟩ = some (.slice a la ca) ∧ w'.cell? ⟨w.heap.size, 1, none⟩ = some (.slice ah nh ch)) ∧ (w'.cell? ⟨w.heap.size + 1, 0, none⟩ = some (.int .i64 p.1) ∧ w'.cell? ⟨w.heap.size + 1, 1, none⟩ = some (.int .i64 p.2))) W.drew := ⟨blk_2 TP, blk_2 T⟩
  have H := bw_drew (bw_refl W)
  clear HO t0 t1 u0 u1
  go_enter Tryz.func12, Tryz.ntmps12
  go_upto_region 1 with fail
  rw [← hW]
  clear hW
  go_region_held3 (fun w' : World => (w'.cell? ⟨w.heap.size, 0, none⟩ = some (.slice a la ca) ∧ w'.cell? ⟨w.heap.size, 1, none⟩ = some (.slice ah nh ch)) ∧ (w'.cell? ⟨w.heap.size + 1, 0, none⟩ = some (.int .i64 p.1) ∧ w'.cell? ⟨w.heap.size + 1, 1, none⟩ = some (.int .i64 p.2)))
    (first | exact ⟨⟨cellB J hS0.1.1, cellB J hS0.1.2⟩, cellB J hS0.2.1, cellB J hS0.2.2⟩ | exact hS0)
    (first
      | (go_at_call 20; refine (hOk2 _ H).mono ?_; rintro e w2 ⟨rfl, J⟩; replace H := bw_trans H J; replace hS0 : (fun w' : World => (w'.cell? ⟨w.heap.size, 0, none⟩ = some (.slice a la ca) ∧ w'.cell? ⟨w.heap.size, 1, none⟩ = some (.slice ah nh ch)) ∧ (w'.cell? ⟨w.heap.size + 1, 0, none⟩ = some (.int .i64 p.1) ∧ w'.cell? ⟨w.heap.size + 1, 1, none⟩ = some (.int .i64 p.2))) w2 := ⟨⟨cellB J hS0.1.1, cellB J hS0.1.2⟩, cellB J hS0.2.1, cellB J hS0.2.2⟩)
      | (go_at_call 35; refine (HI.out _).mono ?_; rintro e w2 ⟨rfl, J⟩; replace H := bw_trans H J; replace hS0 : (fun w' : World => (w'.cell? ⟨w.heap.size, 0, none⟩ = some (.slice a la ca) ∧ w'.cell? ⟨w.heap.size, 1, none⟩ = some (.slice ah nh ch)) ∧ (w'.cell? ⟨w.heap.size + 1, 0, none⟩ = some (.int .i64 p.1) ∧ w'.cell? ⟨w.heap.size + 1, 1, none⟩ = some (.int .i64 p.2))) w2 := ⟨⟨cellB J hS0.1.1, cellB J hS0.1.2⟩, cellB J hS0.2.1, cellB J hS0.2.2⟩)
      | (go_at_call 21; refine (HQ.out _).mono ?_; rintro e w2 ⟨rfl, J⟩; replace H := bw_trans H J; replace hS0 : (fun w' : World => (w'.cell? ⟨w.heap.size, 0, none⟩ = some (.slice a la ca) ∧ w'.cell? ⟨w.heap.size, 1, none⟩ = some (.slice ah nh ch)) ∧ (w'.cell? ⟨w.heap.size + 1, 0, none⟩ = some (.int .i64 p.1) ∧ w'.cell? ⟨w.heap.size + 1, 1, none⟩ = some (.int .i64 p.2))) w2 := ⟨⟨cellB J hS0.1.1, cellB J hS0.1.2⟩, cellB J hS0.2.1, cellB J hS0.2.2⟩)
      | (go_at_call 37; refine (hE _ H).mono ?_; rintro e w2 ⟨v, rfl, ho, J⟩; obtain ⟨g, c, rfl, hg, hR⟩ := row_of_owns' ho (by omega); rw [hN]; replace H := bw_trans H J; replace hS0 : (fun w' : World => (w'.cell? ⟨w.heap.size, 0, none⟩ = some (.slice a la ca) ∧ w'.cell? ⟨w.heap.size, 1, none⟩ = some (.slice ah nh ch)) ∧ (w'.cell? ⟨w.heap.size + 1, 0, none⟩ = some (.int .i64 p.1) ∧ w'.cell? ⟨w.heap.size + 1, 1, none⟩ = some (.int .i64 p.2))) w2 := ⟨⟨cellB J hS0.1.1, cellB J hS0.1.2⟩, cellB J hS0.2.1, cellB J hS0.2.2⟩)
      | (go_at_call 36; refine (hX g c _ H hR hg).mono ?_; rintro e w2 ⟨rfl, J⟩; replace H := bw_trans H J; replace hS0 : (fun w' : World => (w'.cell? ⟨w.heap.size, 0, none⟩ = some (.slice a la ca) ∧ w'.cell? ⟨w.heap.size, 1, none⟩ = some (.slice ah nh ch)) ∧ (w'.cell? ⟨w.heap.size + 1, 0, none⟩ = some (.int .i64 p.1) ∧ w'.cell? ⟨w.heap.size + 1, 1, none⟩ = some (.int .i64 p.2))) w2 := ⟨⟨cellB J hS0.1.1, cellB J hS0.1.2⟩, cellB J hS0.2.1, cellB J hS0.2.2⟩))
  all_goals go_wp2_with fail
  all_goals go_ret
  all_goals exact ⟨by first | rfl | simp, bw_trans BW H⟩
end Go.Proofs.YtmdjhoknlplecaaGreatDoor
namespace Go.Proofs.YtmdjhoknlplecaaGreatDoor
open Go.RowKit Go.Sort

set_option maxRecDepth 100000 in
set_option maxHeartbeats 4000000 in
theorem l71Stand_any (k : Nat) (a : Option Addr) (len cap r : Nat) (w : World) (hk : k ≤ 10) (R : Rd w r k a len cap) :
    Calls Tryz.prog 53 #[.pointer (some ⟨r, 0, none⟩)] w fun e w' => ∃ (o : LoopT) (hv : Value) (hs : List LoopT) (t x y : Int) (k' : Nat), e = .returned (.tuple #[.agg #[o.v, hv], .int .i64 t, .agg #[.int .i64 x, .int .i64 y]]) ∧ (-1 ≤ t ∧ t ≤ 10) ∧ PB x y ∧ PlD w.heap.size w' o hv hs ∧ (hs.length ≤ 3 ∧ Seat hv) ∧ k' ≤ 800000 ∧ Rd w' r k' a len cap ∧ Only r w w' := by
  have hmx : Tryz.prog.follows .mixedOrders = true := by kernel_rfl
  have hlt := R.lt
  obtain ⟨W, hW, BW, T, T2⟩ := boxes2 w (.cells #[.slice none 0 0, .slice none 0 0] 33) (.cells #[.int .i64 0, .int .i64 0] 35)
  have P : Only r w W := by rw [hW]; exact ((Only.refl r w).alloc _).alloc _
  have zT := blk_lt T
  have zT2 := blk_lt T2
  have zW := BW.size
  go_enter Tryz.func53, Tryz.ntmps53
  go_wp2_with fail
  rw [← hW]
  clear hW
  refine (plate_any k a len cap r _ (by omega) (R.below BW)).mono ?_
  clear R
  rintro e w2 ⟨⟨g, n, c, l⟩, hv, hs, k2, he, hD, ⟨hs3, hst⟩, hk2, R, O⟩
  obtain rfl : e = .returned (.agg #[.slice (some ⟨g, 0, none⟩) n c, hv]) := he
  obtain ⟨gh, ch, rfl⟩ : ∃ gh ch, hv = .slice (some ⟨gh, 0, none⟩) hs.length ch := own_seat hD.2.2.1 hst
  replace T := keepO O T (by omega)
  replace T2 := keepO O T2 (by omega)
  replace P := P.trans O
  have z2 := O.size
  obtain ⟨N, hNN⟩ : ∃ N, hs.length = N := ⟨_, rfl⟩
  have HN : Hid (hs.length = N) := hNN
  rw [hNN]
  have hPl := hD.plt
  rw [hNN] at hPl
  clear hNN O
  go_wp2_with fail
  refine (l71Tool_any k2 a len cap r _ (by omega) (R.alloc _)).mono ?_
  clear R
  rintro e w3 ⟨t, k3, rfl, ht, hk3, R, O⟩
  have TP := keepO O (heap_new w2 (.cells #[.slice (some ⟨g, 0, none⟩) n c, .slice (some ⟨gh, 0, none⟩) N ch] 33)) (by omega)
  replace T := keepO O ((heap_old _ _ (blk_lt T)).trans T) (by omega)
  replace T2 := keepO O ((heap_old _ _ (blk_lt T2)).trans T2) (by omega)
  have O2 := ((Only.refl r w2).alloc (.cells #[.slice (some ⟨g, 0, none⟩) n c, .slice (some ⟨gh, 0, none⟩) N ch] 33)).trans O
  have z3 := O2.size
  clear O
  go_wp2_with fail
  refine (l71Pt_any k3 a len cap r _ (by omega) R).mono ?_
  clear R
  rintro e w4 ⟨x, y, k4, rfl, hPB, hk4, R, O⟩
  replace TP := keepO O TP (by omega)
  replace T := keepO O T (by omega)
  replace T2 := keepO O T2 (by omega)
  replace O2 := O2.trans O
  have z4 := O.size
  have zTP := blk_lt TP
  clear O
  have P4 : Only r w w4 := P.trans O2
  have hD4 := hD.only O2 (by omega)
  rw [HN.out] at hD4 hst
  clear hD hPl P O2
  have R5 := R.alloc (.cells #[.int .i64 x, .int .i64 y] 35)
  have A5 := heap_new w4 (.cells #[.int .i64 x, .int .i64 y] 35)
  have Q5 := (Only.refl r w4).alloc (.cells #[.int .i64 x, .int .i64 y] 35)
  clear R
  go_wp2_with fail
  go_loopw [8] (fun i wr => ∃ (m kk : Nat) (x y : Int), m ≤ 30 ∧ i = .int .i64 m ∧ PB x y ∧ kk ≤ k4 + m * 5 ∧ Rd wr r kk a len cap ∧ Only r w4 wr ∧ wr.heap[w4.heap.size]? = some (.cells #[.int .i64 x, .int .i64 y] 35)) (fun i _ => 30 - (intOf i).toNat)
  case atStart => exact ⟨0, k4, x, y, by omega, rfl, hPB, by omega, R5, Q5, A5⟩
  case round =>
    obtain ⟨m, kk, x, y, hm, rfl, hPB, hkk, R, O, A⟩ := hrel
    have T7 := keepO O T (by omega)
    have T27 := keepO O T2 (by omega)
    have TP7 := keepO O TP (by omega)
    have zO := O.size
    have zA := blk_lt A
    have m0 : (0 : Int) ≤ (m : Int) := Int.natCast_nonneg _
    have m1 : (m : Int) ≤ 30 := by omega
    by_cases hlt : m < 30
    case pos =>
      have m2 : (m : Int) < 30 := by omega
      go_wp2_with fail
      refine (pick_rd 20 kk a len cap r _ (by omega) (by omega) R).mono ?_
      clear R
      rintro e y1 ⟨q, rfl, qa, qb, R, O1⟩
      have O2 := O.trans O1
      have A2 := keepO O1 A (by omega)
      have z2' := O2.size
      by_cases hq : 0 < q
      case neg =>
        obtain ⟨a0, a1, af0, af1⟩ := blk2 (keepO O2 T (by omega))
        obtain ⟨b0, b1, bf0, bf1⟩ := blk2 (keepO O2 T2 (by omega))
        have hDz := hD4.only O2.drew (by omega)
        have hS1 : (fun w' : World => (w'.cell? ⟨w2.heap.size, 0, none⟩ = some (.slice (some ⟨g, 0, none⟩) n c) ∧ w'.cell? ⟨w2.heap.size, 1, none⟩ = some (.slice (some ⟨gh, 0, none⟩) N ch)) ∧ (w'.cell? ⟨w4.heap.size, 0, none⟩ = some (.int .i64 x) ∧ w'.cell? ⟨w4.heap.size, 1, none⟩ = some (.int .i64 y))) y1.drew := ⟨blk_2 (keepO O2.drew TP (by omega)), blk_2 (show y1.drew.heap[w4.heap.size]? = _ from A2)⟩
        go_wp2_with fail
        refine wp_region_held (S := (fun w' : World => (w'.cell? ⟨w2.heap.size, 0, none⟩ = some (.slice (some ⟨g, 0, none⟩) n c) ∧ w'.cell? ⟨w2.heap.size, 1, none⟩ = some (.slice (some ⟨gh, 0, none⟩) N ch)) ∧ (w'.cell? ⟨w4.heap.size, 0, none⟩ = some (.int .i64 x) ∧ w'.cell? ⟨w4.heap.size, 1, none⟩ = some (.int .i64 y)))) hmx ?_
        refine wpAnyH_take (i := 0) (v := .agg #[.slice (some ⟨g, 0, none⟩) n c, .slice (some ⟨gh, 0, none⟩) N ch]) rfl (by kernel_rfl) (by kernel_rfl) (by kernel_rfl) (fun _ _ _ h => h) (Or.inl ⟨by rfl, by rintro w' ⟨⟨s1, s2⟩, s3, s4⟩; go_simp⟩) hS1 ?_
        refine wpAnyH_take (i := 1) (v := .int .i64 t) rfl (by kernel_rfl) (by kernel_rfl) (by kernel_rfl) (fun _ _ _ h => h) (Or.inl ⟨by rfl, by rintro w' ⟨⟨s1, s2⟩, s3, s4⟩; go_simp⟩) hS1 ?_
        refine wpAnyH_take (i := 2) (v := .agg #[.int .i64 x, .int .i64 y]) rfl (by kernel_rfl) (by kernel_rfl) (by kernel_rfl) (fun _ _ _ h => h) (Or.inl ⟨by rfl, by rintro w' ⟨⟨s1, s2⟩, s3, s4⟩; go_simp⟩) hS1 ?_
        refine wpAnyH_all (rs := [3]) (by kernel_rfl) (by simp) ?_
        intro i hi
        obtain rfl : i = 3 := by simpa using hi
        refine wpOp_now rfl (by rfl) ?_
        go_simp
        have T1' := setB2 (u0 := .slice (some ⟨g, 0, none⟩) n c) (u1 := .slice (some ⟨gh, 0, none⟩) N ch) (keepO O2 T (by omega))
        have T2' := set_oth (b := w.heap.size) (i := 1) (v := .slice (some ⟨gh, 0, none⟩) N ch) (set_oth (b := w.heap.size) (i := 0) (v := .slice (some ⟨g, 0, none⟩) n c) (keepO O2 T2 (by omega)) (by omega)) (by omega)
        have hS2 : (fun w' : World => (w'.cell? ⟨w2.heap.size, 0, none⟩ = some (.slice (some ⟨g, 0, none⟩) n c) ∧ w'.cell? ⟨w2.heap.size, 1, none⟩ = some (.slice (some ⟨gh, 0, none⟩) N ch)) ∧ (w'.cell? ⟨w4.heap.size, 0, none⟩ = some (.int .i64 x) ∧ w'.cell? ⟨w4.heap.size, 1, none⟩ = some (.int .i64 y))) ((y1.drew.setCell ⟨w.heap.size, 0, none⟩ (.slice (some ⟨g, 0, none⟩) n c)).setCell ⟨w.heap.size, 1, none⟩ (.slice (some ⟨gh, 0, none⟩) N ch)) := ⟨⟨cellS2 hS1.1.1 (by dsimp only; omega), cellS2 hS1.1.2 (by dsimp only; omega)⟩, cellS2 hS1.2.1 (by dsimp only; omega), cellS2 hS1.2.2 (by dsimp only; omega)⟩
        obtain ⟨d0, d1, df0, df1⟩ := blk2 T2'
        first | refine ⟨hS2, ?_⟩ | refine ⟨hS1, ?_⟩
        refine wpAnyH_take (i := 4) (v := .int .i64 t) rfl (by kernel_rfl) (by kernel_rfl) (by kernel_rfl) (fun _ _ _ h => h) (Or.inl ⟨by rfl, by rintro w' ⟨⟨s1, s2⟩, s3, s4⟩; go_simp⟩) hS2 ?_
        refine wpAnyH_all (rs := [5]) (by kernel_rfl) (by simp) ?_
        intro i hi
        obtain rfl : i = 5 := by simpa using hi
        refine wpOp_now rfl (by rfl) ?_
        go_simp
        refine ⟨hS1, ?_⟩
        refine wpAnyH_done (by kernel_rfl) ?_ _
        try simp only [Exit.then]
        have T3' := set_oth (b := w.heap.size + 1) (i := 1) (v := .int .i64 y) (set_oth (b := w.heap.size + 1) (i := 0) (v := .int .i64 x) T1' (by omega)) (by omega)
        have T4' := setB2 (u0 := .int .i64 x) (u1 := .int .i64 y) T2'
        obtain ⟨v0, v1, _, _⟩ := blk2 T3'
        obtain ⟨v2, v3, _, _⟩ := blk2 T4'
        go_wp2_with fail
        refine bodyPost_ret (v := .tuple #[.agg #[.slice (some ⟨g, 0, none⟩) n c, .slice (some ⟨gh, 0, none⟩) N ch], .int .i64 t, .agg #[.int .i64 x, .int .i64 y]]) (by simp [results, Tryz.results53, go_sem, v0, v1, v2, v3]) rfl ?_
        refine ⟨⟨g, n, c, l⟩, _, hs, t, x, y, rfl, ht, hPB, ((((hDz.set (by omega) _).set (by omega) _).set (by omega) _).set (by omega) _).mono (by omega), ⟨hs3, hst⟩, _, ?_, (((R.drew.set (by show r < w.heap.size; omega) _).set (by show r < w.heap.size; omega) _).set (by show r < w.heap.size + 1; omega) _).set (by show r < w.heap.size + 1; omega) _,
          ((((P4.trans O2.drew).set (.inr (Nat.le_refl _)) _).set (.inr (Nat.le_refl _)) _).set (.inr (Nat.le_succ _)) _).set (.inr (Nat.le_succ _)) _⟩
        omega
      case pos =>
        obtain ⟨p0, p1⟩ := blk_2 (keepO O2 TP (by omega))
        obtain ⟨c0, c1⟩ := blk_2 A2
        have hPy : Plt y1 (some ⟨g, 0, none⟩) n (some ⟨gh, 0, none⟩) N l (hs.map LoopT.l) := by have h4 := hD4.only O2 (by omega); have e := HN.out; subst e; exact h4.plt
        have hF := sToolFits_any (some ⟨g, 0, none⟩) (some ⟨gh, 0, none⟩) n c N ch l (hs.map LoopT.l) t (x, y) y1 hPy
        obtain ⟨bf, hbf⟩ : ∃ b, fitV l (hs.map LoopT.l) t (x, y) = b := ⟨_, rfl⟩
        rw [hbf] at hF
        clear hbf hPy
        go_wp2_with fail
        refine hF.mono ?_
        rintro e y2 ⟨rfl, J⟩
        have O3 := O2.trans (Only.of_below J)
        have A3 := keep J A2
        replace R := R.below J
        have z3' := O3.size
        clear p0 p1 c0 c1 hF
        cases bf
        case true =>
          obtain ⟨a0, a1, af0, af1⟩ := blk2 (keepO O3 T (by omega))
          obtain ⟨b0, b1, bf0, bf1⟩ := blk2 (keepO O3 T2 (by omega))
          have hDz := hD4.only O3.drew (by omega)
          have hS1 : (fun w' : World => (w'.cell? ⟨w2.heap.size, 0, none⟩ = some (.slice (some ⟨g, 0, none⟩) n c) ∧ w'.cell? ⟨w2.heap.size, 1, none⟩ = some (.slice (some ⟨gh, 0, none⟩) N ch)) ∧ (w'.cell? ⟨w4.heap.size, 0, none⟩ = some (.int .i64 x) ∧ w'.cell? ⟨w4.heap.size, 1, none⟩ = some (.int .i64 y))) y2.drew := ⟨blk_2 (keepO O3.drew TP (by omega)), blk_2 (show y2.drew.heap[w4.heap.size]? = _ from A3)⟩
          go_wp2_with fail
          refine wp_region_held (S := (fun w' : World => (w'.cell? ⟨w2.heap.size, 0, none⟩ = some (.slice (some ⟨g, 0, none⟩) n c) ∧ w'.cell? ⟨w2.heap.size, 1, none⟩ = some (.slice (some ⟨gh, 0, none⟩) N ch)) ∧ (w'.cell? ⟨w4.heap.size, 0, none⟩ = some (.int .i64 x) ∧ w'.cell? ⟨w4.heap.size, 1, none⟩ = some (.int .i64 y)))) hmx ?_
          refine wpAnyH_take (i := 0) (v := .agg #[.slice (some ⟨g, 0, none⟩) n c, .slice (some ⟨gh, 0, none⟩) N ch]) rfl (by kernel_rfl) (by kernel_rfl) (by kernel_rfl) (fun _ _ _ h => h) (Or.inl ⟨by rfl, by rintro w' ⟨⟨s1, s2⟩, s3, s4⟩; go_simp⟩) hS1 ?_
          refine wpAnyH_take (i := 1) (v := .int .i64 t) rfl (by kernel_rfl) (by kernel_rfl) (by kernel_rfl) (fun _ _ _ h => h) (Or.inl ⟨by rfl, by rintro w' ⟨⟨s1, s2⟩, s3, s4⟩; go_simp⟩) hS1 ?_
          refine wpAnyH_take (i := 2) (v := .agg #[.int .i64 x, .int .i64 y]) rfl (by kernel_rfl) (by kernel_rfl) (by kernel_rfl) (fun _ _ _ h => h) (Or.inl ⟨by rfl, by rintro w' ⟨⟨s1, s2⟩, s3, s4⟩; go_simp⟩) hS1 ?_
          refine wpAnyH_all (rs := [3]) (by kernel_rfl) (by simp) ?_
          intro i hi
          obtain rfl : i = 3 := by simpa using hi
          refine wpOp_now rfl (by rfl) ?_
          go_simp
          have T1' := setB2 (u0 := .slice (some ⟨g, 0, none⟩) n c) (u1 := .slice (some ⟨gh, 0, none⟩) N ch) (keepO O3 T (by omega))
          have T2' := set_oth (b := w.heap.size) (i := 1) (v := .slice (some ⟨gh, 0, none⟩) N ch) (set_oth (b := w.heap.size) (i := 0) (v := .slice (some ⟨g, 0, none⟩) n c) (keepO O3 T2 (by omega)) (by omega)) (by omega)
          have hS2 : (fun w' : World => (w'.cell? ⟨w2.heap.size, 0, none⟩ = some (.slice (some ⟨g, 0, none⟩) n c) ∧ w'.cell? ⟨w2.heap.size, 1, none⟩ = some (.slice (some ⟨gh, 0, none⟩) N ch)) ∧ (w'.cell? ⟨w4.heap.size, 0, none⟩ = some (.int .i64 x) ∧ w'.cell? ⟨w4.heap.size, 1, none⟩ = some (.int .i64 y))) ((y2.drew.setCell ⟨w.heap.size, 0, none⟩ (.slice (some ⟨g, 0, none⟩) n c)).setCell ⟨w.heap.size, 1, none⟩ (.slice (some ⟨gh, 0, none⟩) N ch)) := ⟨⟨cellS2 hS1.1.1 (by dsimp only; omega), cellS2 hS1.1.2 (by dsimp only; omega)⟩, cellS2 hS1.2.1 (by dsimp only; omega), cellS2 hS1.2.2 (by dsimp only; omega)⟩
          obtain ⟨d0, d1, df0, df1⟩ := blk2 T2'
          first | refine ⟨hS2, ?_⟩ | refine ⟨hS1, ?_⟩
          refine wpAnyH_take (i := 4) (v := .int .i64 t) rfl (by kernel_rfl) (by kernel_rfl) (by kernel_rfl) (fun _ _ _ h => h) (Or.inl ⟨by rfl, by rintro w' ⟨⟨s1, s2⟩, s3, s4⟩; go_simp⟩) hS2 ?_
          refine wpAnyH_all (rs := [5]) (by kernel_rfl) (by simp) ?_
          intro i hi
          obtain rfl : i = 5 := by simpa using hi
          refine wpOp_now rfl (by rfl) ?_
          go_simp
          refine ⟨hS1, ?_⟩
          refine wpAnyH_done (by kernel_rfl) ?_ _
          try simp only [Exit.then]
          have T3' := set_oth (b := w.heap.size + 1) (i := 1) (v := .int .i64 y) (set_oth (b := w.heap.size + 1) (i := 0) (v := .int .i64 x) T1' (by omega)) (by omega)
          have T4' := setB2 (u0 := .int .i64 x) (u1 := .int .i64 y) T2'
          obtain ⟨v0, v1, _, _⟩ := blk2 T3'
          obtain ⟨v2, v3, _, _⟩ := blk2 T4'
          go_wp2_with fail
          refine bodyPost_ret (v := .tuple #[.agg #[.slice (some ⟨g, 0, none⟩) n c, .slice (some ⟨gh, 0, none⟩) N ch], .int .i64 t, .agg #[.int .i64 x, .int .i64 y]]) (by simp [results, Tryz.results53, go_sem, v0, v1, v2, v3]) rfl ?_
          refine ⟨⟨g, n, c, l⟩, _, hs, t, x, y, rfl, ht, hPB, ((((hDz.set (by omega) _).set (by omega) _).set (by omega) _).set (by omega) _).mono (by omega), ⟨hs3, hst⟩, _, ?_, (((R.drew.set (by show r < w.heap.size; omega) _).set (by show r < w.heap.size; omega) _).set (by show r < w.heap.size + 1; omega) _).set (by show r < w.heap.size + 1; omega) _,
            ((((P4.trans O3.drew).set (.inr (Nat.le_refl _)) _).set (.inr (Nat.le_refl _)) _).set (.inr (Nat.le_succ _)) _).set (.inr (Nat.le_succ _)) _⟩
          omega
        case false =>
          go_wp2_with fail
          refine (l71Pt_any (kk + 1) a len cap r _ (by omega) R).mono ?_
          clear R
          rintro e y3 ⟨x', y', k5, rfl, hPB', hk5, R, O4⟩
          have O5 := O3.trans O4
          have A5' := keepO O4 A3 (by omega)
          obtain ⟨c0, c1, cf0, cf1⟩ := blk2 A5'
          go_wp2_with fail
          go_roundw
          case rel => exact ⟨m + 1, k5, x', y', by omega, by simp, hPB', by omega, (R.set (by show r < w4.heap.size; omega) _).set (by show r < w4.heap.size; omega) _, (O5.set (.inr (Nat.le_refl _)) _).set (.inr (Nat.le_refl _)) _, setB2 A5'⟩
          case measure => simp [intOf]; omega
    case neg =>
      obtain rfl : m = 30 := by omega
      obtain ⟨a0, a1, af0, af1⟩ := blk2 (keepO O T (by omega))
      obtain ⟨b0, b1, bf0, bf1⟩ := blk2 (keepO O T2 (by omega))
      have hDz := hD4.only O.drew (by omega)
      have hS1 : (fun w' : World => (w'.cell? ⟨w2.heap.size, 0, none⟩ = some (.slice (some ⟨g, 0, none⟩) n c) ∧ w'.cell? ⟨w2.heap.size, 1, none⟩ = some (.slice (some ⟨gh, 0, none⟩) N ch)) ∧ (w'.cell? ⟨w4.heap.size, 0, none⟩ = some (.int .i64 x) ∧ w'.cell? ⟨w4.heap.size, 1, none⟩ = some (.int .i64 y))) wr.drew := ⟨blk_2 (keepO O.drew TP (by omega)), blk_2 (show wr.drew.heap[w4.heap.size]? = _ from A)⟩
      go_wp2_with fail
      refine wp_region_held (S := (fun w' : World => (w'.cell? ⟨w2.heap.size, 0, none⟩ = some (.slice (some ⟨g, 0, none⟩) n c) ∧ w'.cell? ⟨w2.heap.size, 1, none⟩ = some (.slice (some ⟨gh, 0, none⟩) N ch)) ∧ (w'.cell? ⟨w4.heap.size, 0, none⟩ = some (.int .i64 x) ∧ w'.cell? ⟨w4.heap.size, 1, none⟩ = some (.int .i64 y)))) hmx ?_
      refine wpAnyH_take (i := 0) (v := .agg #[.slice (some ⟨g, 0, none⟩) n c, .slice (some ⟨gh, 0, none⟩) N ch]) rfl (by kernel_rfl) (by kernel_rfl) (by kernel_rfl) (fun _ _ _ h => h) (Or.inl ⟨by rfl, by rintro w' ⟨⟨s1, s2⟩, s3, s4⟩; go_simp⟩) hS1 ?_
      refine wpAnyH_take (i := 1) (v := .int .i64 t) rfl (by kernel_rfl) (by kernel_rfl) (by kernel_rfl) (fun _ _ _ h => h) (Or.inl ⟨by rfl, by rintro w' ⟨⟨s1, s2⟩, s3, s4⟩; go_simp⟩) hS1 ?_
      refine wpAnyH_take (i := 2) (v := .agg #[.int .i64 x, .int .i64 y]) rfl (by kernel_rfl) (by kernel_rfl) (by kernel_rfl) (fun _ _ _ h => h) (Or.inl ⟨by rfl, by rintro w' ⟨⟨s1, s2⟩, s3, s4⟩; go_simp⟩) hS1 ?_
      refine wpAnyH_all (rs := [3]) (by kernel_rfl) (by simp) ?_
      intro i hi
      obtain rfl : i = 3 := by simpa using hi
      refine wpOp_now rfl (by rfl) ?_
      go_simp
      have T1' := setB2 (u0 := .slice (some ⟨g, 0, none⟩) n c) (u1 := .slice (some ⟨gh, 0, none⟩) N ch) (keepO O T (by omega))
      have T2' := set_oth (b := w.heap.size) (i := 1) (v := .slice (some ⟨gh, 0, none⟩) N ch) (set_oth (b := w.heap.size) (i := 0) (v := .slice (some ⟨g, 0, none⟩) n c) (keepO O T2 (by omega)) (by omega)) (by omega)
      have hS2 : (fun w' : World => (w'.cell? ⟨w2.heap.size, 0, none⟩ = some (.slice (some ⟨g, 0, none⟩) n c) ∧ w'.cell? ⟨w2.heap.size, 1, none⟩ = some (.slice (some ⟨gh, 0, none⟩) N ch)) ∧ (w'.cell? ⟨w4.heap.size, 0, none⟩ = some (.int .i64 x) ∧ w'.cell? ⟨w4.heap.size, 1, none⟩ = some (.int .i64 y))) ((wr.drew.setCell ⟨w.heap.size, 0, none⟩ (.slice (some ⟨g, 0, none⟩) n c)).setCell ⟨w.heap.size, 1, none⟩ (.slice (some ⟨gh, 0, none⟩) N ch)) := ⟨⟨cellS2 hS1.1.1 (by dsimp only; omega), cellS2 hS1.1.2 (by dsimp only; omega)⟩, cellS2 hS1.2.1 (by dsimp only; omega), cellS2 hS1.2.2 (by dsimp only; omega)⟩
      obtain ⟨d0, d1, df0, df1⟩ := blk2 T2'
      first | refine ⟨hS2, ?_⟩ | refine ⟨hS1, ?_⟩
      refine wpAnyH_take (i := 4) (v := .int .i64 t) rfl (by kernel_rfl) (by kernel_rfl) (by kernel_rfl) (fun _ _ _ h => h) (Or.inl ⟨by rfl, by rintro w' ⟨⟨s1, s2⟩, s3, s4⟩; go_simp⟩) hS2 ?_
      refine wpAnyH_all (rs := [5]) (by kernel_rfl) (by simp) ?_
      intro i hi
      obtain rfl : i = 5 := by simpa using hi
      refine wpOp_now rfl (by rfl) ?_
      go_simp
      refine ⟨hS1, ?_⟩
      refine wpAnyH_done (by kernel_rfl) ?_ _
      try simp only [Exit.then]
      have T3' := set_oth (b := w.heap.size + 1) (i := 1) (v := .int .i64 y) (set_oth (b := w.heap.size + 1) (i := 0) (v := .int .i64 x) T1' (by omega)) (by omega)
      have T4' := setB2 (u0 := .int .i64 x) (u1 := .int .i64 y) T2'
      obtain ⟨v0, v1, _, _⟩ := blk2 T3'
      obtain ⟨v2, v3, _, _⟩ := blk2 T4'
      go_wp2_with fail
      refine bodyPost_ret (v := .tuple #[.agg #[.slice (some ⟨g, 0, none⟩) n c, .slice (some ⟨gh, 0, none⟩) N ch], .int .i64 t, .agg #[.int .i64 x, .int .i64 y]]) (by simp [results, Tryz.results53, go_sem, v0, v1, v2, v3]) rfl ?_
      refine ⟨⟨g, n, c, l⟩, _, hs, t, x, y, rfl, ht, hPB, ((((hDz.set (by omega) _).set (by omega) _).set (by omega) _).set (by omega) _).mono (by omega), ⟨hs3, hst⟩, _, ?_, (((R.drew.set (by show r < w.heap.size; omega) _).set (by show r < w.heap.size; omega) _).set (by show r < w.heap.size + 1; omega) _).set (by show r < w.heap.size + 1; omega) _,
        ((((P4.trans O.drew).set (.inr (Nat.le_refl _)) _).set (.inr (Nat.le_refl _)) _).set (.inr (Nat.le_succ _)) _).set (.inr (Nat.le_succ _)) _⟩
      omega
end Go.Proofs.YtmdjhoknlplecaaGreatDoor
namespace Go.Proofs.YtmdjhoknlplecaaGreatDoor
open Go.RowKit

/-- What such an iterator promises, also if a round says 'no more'. -/
def SeqOS {α : Type} (F : Fence) (n : Nat) (P : Program) (g : Nat) (lb : Array Value) (encs : α → Array Value) (Kp : World → World → Prop) (all : List α) (w : World) : Prop :=
  ∀ (l : Nat) (J Jx : List α → World → Prop) (W : World), Below w.heap.size w W → OwnFrom W.heap.size J → OwnFrom W.heap.size Jx →
    (∀ pre x W1, J pre W1 → pre.length < all.length → YieldAt F (n - 1) P l (encs x) W1 fun e W' => ∃ b, e = .returned (.bool b) ∧ KeepsFrom W.heap.size W1 W' ∧ (b = true → J (pre ++ [x]) W' ∧ Kp W1 W') ∧ (b = false → Jx (pre ++ [x]) W')) →
    J [] W → CallsIn F n P g (#[.func (.yield l) #[] #[]] ++ lb) W fun e W' => (∃ v, e = .returned v) ∧ (J all W' ∨ ∃ pre, pre <+: all ∧ Jx pre W')
/-- How a round ends: it goes on, or leaves. -/
def onOS {α : Type} (B : Nat) (Kp : World → World → Prop) (I : List α → World → Prop) (Ix : Code → List α → World → Prop) (xs : List α) (W : World) : Exit → Act → World → Prop
  | .normal, _, W' => KeepsFrom B W W' ∧ Kp W W' ∧ I xs W'
  | .ret, _, W' => KeepsFrom B W W' ∧ Ix .ret xs W'
  | .exit id, _, W' => KeepsFrom B W W' ∧ Ix (.exit id) xs W'
  | _, _, _ => False
set_option maxHeartbeats 1000000 in
theorem wpIn_rangeOS {F : Fence} {n : Nat} {P : Program} {α : Type} {g : Operand} {ps : Array Tmp} {assign body : Code} {Q : Exit → Act → World → Prop} {a : Act} {w : World}
    (hro : F.round = none) (h1 : 1 ≤ n) {gf : Nat} {lb : Array Value} (hg : a.eval g = .func (.func gf) #[] lb) (hFg : F.fn gf) (eg : ∀ args w, (callFunc gf args).run P w = .ok (.enter gf args) w)
    {encs : α → Array Value} {Kp : World → World → Prop} {all : List α} {w0 : World} (hseq : SeqOS F (n - 1) P gf lb encs Kp all w0)
    (hKt : ∀ {A B C : World}, Kp A B → Kp B C → Kp A C) (hKb : ∀ (W : World) (l : Nat) (o o' : Obj), w.heap.size ≤ l → W.heap[l]? = some o → o.isCells = false → o.isWalk = false → Kp W (W.putObj l o'))
    (hb0 : Below w0.heap.size w0 w) (hps : ∀ x, (encs x).size = ps.size)
    (I : List α → World → Prop) (Ix : Code → List α → World → Prop) (hI : OwnFrom w.heap.size I) (hIx : ∀ c, OwnFrom w.heap.size (Ix c)) (h0 : I [] w) (Ax : α → Act → World → Prop) (hAx : ∀ x a', OwnFrom w.heap.size (fun (_ : Unit) W => Ax x a' W))
    (hassign : ∀ (l : Nat) (pre : List α) (x : α) (W : World) (K : Act → World → Prop), I pre W → (∀ a' W', KeepsFrom w.heap.size W W' → Kp W W' → I pre W' → Ax x a' W' → K a' W') →
      assign.wpIn (F.inRound l) (n - 1 - 1) P (Exit.then K (fun _ _ _ => False)) { tmps := (ps.zip (encs x)).foldl (fun t (p, v) => t.setIfInBounds p v) a.tmps, defers := [] } W)
    (hbody : ∀ (l : Nat) (pre : List α) (x : α) (a' : Act) (W : World), w.heap.size ≤ l → I pre W → Ax x a' W → pre.length < all.length → body.wpIn (F.inRound l) (n - 1 - 1) P (onOS w.heap.size Kp I Ix (pre ++ [x]) W) a' W)
    (hdone : ∀ (D : Nat) (W : World), w.heap.size ≤ D → I all W → W.heap[D]? = some (.deferred (some [])) → Q .normal { a with defers := { target := .collected D, args := #[] } :: a.defers } W)
    (hstop : ∀ (D : Nat) (c : Code) (pre : List α) (W : World), w.heap.size ≤ D → pre <+: all → Ix c pre W → W.heap[D]? = some (.deferred (some [])) → c.wpIn F n P Q { a with defers := { target := .collected D, args := #[] } :: a.defers } W) :
    (Code.rangeFunc g ps assign body).wpIn F n P Q a w := by
  refine wpIn_rangeFunc ?_
  intro fn hfn
  rw [hro]
  obtain ⟨mk, hmk⟩ : ∃ mk : LoopState → Option Code → Loop, mk = fun st pe => { state := st, pending := pe, fn, tmps := a.tmps, params := ps, assign, body, defers := w.heap.size } := ⟨_, rfl⟩
  -- the two blocks of the loop's own books
  have book : ∀ W : World, ((w.alloc (.deferred (some []))).alloc (.loop (mk .ready none))) = W → W.heap[w.heap.size + 1]? = some (.loop (mk .ready none)) ∧ W.heap[w.heap.size]? = some (.deferred (some [])) ∧ I [] W ∧ Below w0.heap.size w0 W ∧ W.heap.size = w.heap.size + 2 := by
    rintro W rfl
    refine ⟨?_, ?_, hI.alloc _ (hI.alloc _ h0), ?_, by simp⟩
    · have := World.alloc_heap_new (w.alloc (.deferred (some []))) (.loop (mk .ready none)); rwa [World.size_alloc] at this
    · exact (Below.heap_alloc _ _ _ (by simp)).trans (World.alloc_heap_new w _)
    · exact hb0.trans ((((Below.refl _ w).alloc (Nat.le_refl _) _).alloc (by simp) _).mono hb0.size)
  obtain ⟨V, hV⟩ : ∃ V, (w.alloc (.deferred (some []))).alloc (.loop (mk .ready none)) = V := ⟨_, rfl⟩
  obtain ⟨hL, hK, hIV, hbV, hsz⟩ := book V hV
  refine ⟨w.heap.size + 1, [{ target := .collected w.heap.size, args := #[] }], V, { target := .fn (.func gf) lb, args := #[.func (.yield (w.heap.size + 1)) #[] #[]] }, V, gf, #[.func (.yield (w.heap.size + 1)) #[] #[]] ++ lb, V, ?_, ?_, ?_, ?_, fun _ => h1, ?_⟩
  · rw [← hV, hmk]; exact run_enterLoop_outer _ _ _ _ _
  · simp only [resolve, hg]
    simp [go_sem]
  · intro f' hf'
    simp [Target.leads] at hf'
    subst hf'
    exact hFg
  · simp [invoke, go_sem, eg]
  have keepB : ∀ {A B : World} {row : Option Nat} (k : Nat) (o : Obj), k < V.heap.size → A.grownBy B row → (∀ r, row = some r → V.heap.size ≤ r ∧ ∃ o : Obj, A.heap[r]? = some o ∧ o.isCells = false) → A.heap[k]? = some o → B.heap[k]? = some o := fun {A B row} k o hk hg' hr h =>
    (hg'.block k (Array.getElem?_eq_some_iff.1 h).1 (fun e => by have := (hr k e.symm).1; omega)).trans h
  refine (hseq (w.heap.size + 1) (fun pre W => I pre W ∧ W.heap[w.heap.size + 1]? = some (.loop (mk .ready none)) ∧ W.heap[w.heap.size]? = some (.deferred (some [])))
    (fun pre W => ∃ c, Ix c pre W ∧ W.heap[w.heap.size + 1]? = some (.loop (mk .done (some c))) ∧ W.heap[w.heap.size]? = some (.deferred (some []))) V hbV
    (fun s A B row hs hg' hr => ⟨hI s A B row hs.1 hg' (fun r e => ⟨by have := (hr r e).1; omega, (hr r e).2⟩), keepB _ _ (by omega) hg' hr hs.2.1, keepB _ _ (by omega) hg' hr hs.2.2⟩)
    (fun s A B row hs hg' hr => by
      obtain ⟨c, hc, hl, hk⟩ := hs
      exact ⟨c, hIx c s A B row hc hg' (fun r e => ⟨by have := (hr r e).1; omega, (hr r e).2⟩), keepB _ _ (by omega) hg' hr hl, keepB _ _ (by omega) hg' hr hk⟩) ?_ ⟨hIV, hL, hK⟩).mono ?_
  · rintro pre x W ⟨hi, hl, hk⟩ hlen
    have hy := run_yield (P := P) (args := encs x) hl (by rw [hmk]; exact hps x)
    rw [hmk] at hy
    refine ⟨fn, _, assign, body, hy, roundIn_of_wpIn hfn (hassign _ pre x W _ hi ?_)⟩
    clear hy
    intro a' U hkf hkp hiU hax
    have hlU := hkf.same _ _ (by omega) hl rfl
    have hkU := hkf.same _ _ (Nat.le_refl _) hk rfl
    have hltU : w.heap.size + 1 < U.heap.size := (Array.getElem?_eq_some_iff.1 hlU).1
    refine ⟨_, run_beginRound hlU (by rw [hmk]), ?_⟩
    obtain ⟨U2, hU2⟩ : ∃ U2, U.putObj (w.heap.size + 1) (.loop { mk .ready none with state := .busy }) = U2 := ⟨_, rfl⟩
    have hlU2 : U2.heap[w.heap.size + 1]? = some (.loop { mk .ready none with state := .busy }) := by rw [← hU2]; exact World.putObj_heap_same hltU
    have hkU2 : U2.heap[w.heap.size]? = some (.deferred (some [])) := by rw [← hU2]; exact (World.putObj_heap_other (by omega)).trans hkU
    have hpU2 : Kp U U2 := by rw [← hU2]; exact hKb _ _ _ _ (by omega) hlU rfl rfl
    have hiU2 : I pre U2 := by rw [← hU2]; exact hI.putObj _ hiU (by omega) hlU rfl
    have haU2 : Ax x a' U2 := by rw [← hU2]; exact (hAx x a').putObj (s := ()) _ hax (by omega) hlU rfl
    rw [hU2]
    refine wpIn_mono (hbody _ pre x a' _ (by omega) hiU2 haU2 hlen) ?_
    rintro e a3 W3 hp
    cases e with
    | normal =>
      obtain ⟨hk3, hp3, hi3⟩ := hp
      have hl3 := hk3.same _ _ (by omega) hlU2 rfl
      have hd3 := hk3.same _ _ (Nat.le_refl _) hkU2 rfl
      have hend := run_endRound (P := P) none hl3
      rw [hmk] at hend hl3 ⊢
      refine ⟨_, _, hend, true, rfl, ?_, fun _ => ⟨⟨hI.putObj _ hi3 (by omega) hl3 rfl, World.putObj_heap_same (Array.getElem?_eq_some_iff.1 hl3).1, (World.putObj_heap_other (by omega)).trans hd3⟩, hKt hkp (hKt hpU2 (hKt hp3 (hKb _ _ _ _ (by omega) hl3 rfl rfl)))⟩, fun e => by cases e⟩
      have hU : KeepsFrom V.heap.size U U2 := by rw [← hU2]; exact keepsFrom_put _ _ (by omega)
      exact ((keeps_far hkf (by omega)).trans hU).trans ((keeps_far hk3 (by omega)).trans (keepsFrom_put _ _ (by omega)))
    | ret =>
      obtain ⟨hk3, hi3⟩ := hp
      have hl3 := hk3.same _ _ (by omega) hlU2 rfl
      have hd3 := hk3.same _ _ (Nat.le_refl _) hkU2 rfl
      have hend := run_endRound (P := P) (some .ret) hl3
      rw [hmk] at hend hl3 ⊢
      refine ⟨_, _, hend, false, rfl, ?_, (fun e => by cases e), fun _ => ⟨.ret, (hIx _).putObj _ hi3 (by omega) hl3 rfl, World.putObj_heap_same (Array.getElem?_eq_some_iff.1 hl3).1, (World.putObj_heap_other (by omega)).trans hd3⟩⟩
      have hU : KeepsFrom V.heap.size U U2 := by rw [← hU2]; exact keepsFrom_put _ _ (by omega)
      exact ((keeps_far hkf (by omega)).trans hU).trans ((keeps_far hk3 (by omega)).trans (keepsFrom_put _ _ (by omega)))
    | exit id =>
      obtain ⟨hk3, hi3⟩ := hp
      have hl3 := hk3.same _ _ (by omega) hlU2 rfl
      have hd3 := hk3.same _ _ (Nat.le_refl _) hkU2 rfl
      have hend := run_endRound (P := P) (some (.exit id)) hl3
      rw [hmk] at hend hl3 ⊢
      refine ⟨_, _, hend, false, rfl, ?_, (fun e => by cases e), fun _ => ⟨.exit id, (hIx _).putObj _ hi3 (by omega) hl3 rfl, World.putObj_heap_same (Array.getElem?_eq_some_iff.1 hl3).1, (World.putObj_heap_other (by omega)).trans hd3⟩⟩
      have hU : KeepsFrom V.heap.size U U2 := by rw [← hU2]; exact keepsFrom_put _ _ (by omega)
      exact ((keeps_far hkf (by omega)).trans hU).trans ((keeps_far hk3 (by omega)).trans (keepsFrom_put _ _ (by omega)))
    | goto t => exact hp.elim
    | panic ch => exact hp.elim
    | outgrown => exact hp.elim
  · rintro e W2 ⟨⟨v, rfl⟩, (⟨hi, hl, hk⟩ | ⟨pre, hpre, c, hi, hl, hk⟩)⟩
    · exact ⟨none, _, by have := run_endLoop (P := P) hl (by rw [hmk]; simp); rw [hmk] at this; exact this, hdone _ _ (Nat.le_refl _) (hI.putObj _ hi (by omega) hl rfl) ((World.putObj_heap_other (by omega)).trans hk)⟩
    · exact ⟨some c, _, by have := run_endLoop (P := P) hl (by rw [hmk]; simp); rw [hmk] at this; exact this, hstop _ c pre _ (Nat.le_refl _) hpre ((hIx c).putObj _ hi (by omega) hl rfl) ((World.putObj_heap_other (by omega)).trans hk)⟩
end Go.Proofs.YtmdjhoknlplecaaGreatDoor
namespace Go.Proofs.YtmdjhoknlplecaaGreatDoor
open Go.RowKit Go.Shelf Go.Sort
attribute [local go_sem] Oper.semAt_some

set_option maxRecDepth 100000 in
set_option maxHeartbeats 4000000 in
theorem ringE_seqS (n : Nat) (hn : 6 ≤ n) (B n₀ : Nat) (q : Option Addr) (rs : List RingT) (w : World) (hB : w.cell? ⟨B, 0, none⟩ = some (.pointer q)) (hn₀ : n₀ ≤ w.heap.size) (hR : RingN n₀ w q rs) :
    SeqOS Fence.wide n Tryz.prog 102 #[.pointer (some ⟨B, 0, none⟩)] segE (KT n₀) (edgR rs) w := by
  intro l J Jx W hW hJ hJx hY h0
  have zBw : B < w.heap.size := World.block_lt_of_cell? _ _ hB
  have hBW := (hW.cell (p := ⟨B, 0, none⟩) zBw).trans hB
  have hRW := hR.keep (hW.mono hn₀)
  have zW := hW.size
  have zB : B < W.heap.size := by omega
  have h1 : 1 ≤ n := by omega
  refine callsIn_of_wp_marks Tryz.func102 rfl trivial ?_ rfl
  simp only [Tryz.ntmps102, List.size_toArray, List.length_cons, List.length_nil, Nat.reduceAdd, Nat.reduceSub, Array.replicate_succ, Array.replicate_zero, List.push_toArray, List.append_toArray, List.nil_append, List.cons_append]
  gi_wp2
  refine wpIn_loop (fun a V => ∃ (dn rest : List RingT) (p : Option Addr) (ds : List Nat) (u7 u8 u9 u10 u11 u12 u13 u14 u15 u16 u17 : Value), rs = dn ++ rest ∧ RingN n₀ V p rest ∧ J (edgR dn) V ∧ KT n₀ W V ∧ Lies W.heap.size #[.func (.yield l) #[] #[]] 115 V ∧ (∀ D ∈ ds, W.heap.size ≤ D ∧ V.heap[D]? = some (.deferred (some []))) ∧ ds.Nodup ∧
      a = { tmps := #[.func (.yield l) #[] #[], .pointer (some ⟨B, 0, none⟩), .pointer (some ⟨W.heap.size, 0, none⟩), .pointer p, undef, undef, .pointer q, u7, u8, u9, u10, u11, u12, u13, u14, u15, u16, u17, undef, undef, undef, undef, undef, undef], defers := ds.map fun D => { target := .collected D, args := #[] } })
    (fun a V => ringsLeft V (a.tmps.getD 3 undef)) ?start ?round
  case start =>
    refine ⟨[], rs, q, [], undef, undef, undef, undef, undef, undef, undef, undef, undef, undef, undef, rfl, hRW.keep ((Below.refl _ W).alloc (by omega) _), ?_, KT.of_below ((Below.refl _ W).alloc (Nat.le_refl _) _) (by omega), Lies.new W _ _, fun D hD => by simp at hD, by simp, rfl⟩
    exact hJ.alloc _ h0
  case round =>
    rintro a V ⟨dn, rest, p, ds, u7, u8, u9, u10, u11, u12, u13, u14, u15, u16, u17, hrs, hRV, hJV, hkt, LY, hds, hnd, rfl⟩
    cases rest with
    | nil =>
      obtain rfl : p = none := hRV
      gi_wp2
      rw [List.append_nil] at hrs
      subst hrs
      exact leaves_marks (fun V => J (edgR rs) V) W.heap.size (fun V D o hBD hD hj => hJ.putObj _ hj hBD hD rfl) (fun V hg => ⟨_, results_none rfl _ _ _, ⟨_, rfl⟩, .inl hg⟩) ds V hnd hds hJV
    | cons y ys =>
      obtain ⟨b, q', t, rfl, hb, hL, hyl, hP, hr⟩ := hRV
      obtain ⟨c0, c1, _, _⟩ := lies2 hL
      have zV := hkt.1.size
      have hdsV : ∀ D ∈ ds, D < V.heap.size := fun D hD => (Array.getElem?_eq_some_iff.1 (hds D hD).2).1
      gi_wp2_with (refine ⟨trivial, ?_⟩; gi_at_call 103; refine (edges_in (n - 1) _ _ _ _).mono ?_; rintro e w' ⟨rfl, rfl⟩)
      have BL : Lies V.heap.size #[.slice y.a y.len y.cap] 30 (V.alloc (.cells #[.slice y.a y.len y.cap] 30)) := Lies.new V _ _
      have hBV : Below V.heap.size V (V.alloc (.cells #[.slice y.a y.len y.cap] 30)) := (by repeat (first | exact bw_refl _ | assumption | apply bw_drewN | apply bw_drew | apply bw_alloc | refine bw_set ?_ (by simp) _))
      have hJ2 : J (edgR dn) (V.alloc (.cells #[.slice y.a y.len y.cap] 30)) := hJ.alloc _ hJV
      have LY2 := LY.below hBV
      have hds2 : ∀ D ∈ ds, W.heap.size ≤ D ∧ (V.alloc (.cells #[.slice y.a y.len y.cap] 30)).heap[D]? = some (.deferred (some [])) := fun D hD => ⟨(hds D hD).1, (hBV.block D (hdsV D hD)).trans (hds D hD).2⟩
      have hP2 : Pts n₀ (V.alloc (.cells #[.slice y.a y.len y.cap] 30)) y.a y.len y.pts := hP.below (hBV.mono (by omega))
      have hK2 : KT n₀ V (V.alloc (.cells #[.slice y.a y.len y.cap] 30)) := KT.of_below hBV (by omega)
      have hsz : (V.alloc (.cells #[.slice y.a y.len y.cap] 30)).heap.size = V.heap.size + 1 := by simp
      obtain ⟨V2, hV2⟩ : ∃ V2, V.alloc (.cells #[.slice y.a y.len y.cap] 30) = V2 := ⟨_, rfl⟩
      rw [hV2] at BL hBV hJ2 LY2 hds2 hP2 hK2 hsz ⊢
      clear hV2
      have hst := edges_stops (n - 1) (by omega) V.heap.size n₀ y.a y.len y.cap y.pts V2 (by omega) (by omega) hyl BL.c1 hP2
      refine wpIn_rangeFunc_ownH rfl h1 (gf := 119) (lb := #[.pointer (some ⟨V.heap.size, 0, none⟩)]) rfl trivial (enters_of Tryz.func119 (by kernel_rfl) rfl)
        hst KB_t (KB_b (by omega) (by omega)) (Below.refl _ _) (fun _ => rfl)
        (fun pre V3 => (J (edgR dn ++ pre.map fun k => (ptAt y.pts k.1, ptAt y.pts (nxt y.pts k.1))) V3 ∧ Lies W.heap.size #[.func (.yield l) #[] #[]] 115 V3 ∧ Lies V.heap.size #[.slice y.a y.len y.cap] 30 V3 ∧ ∀ D ∈ ds, W.heap.size ≤ D ∧ V3.heap[D]? = some (.deferred (some []))) ∧ KT n₀ V V3)
        (fun c pre V3 => c = .ret ∧ Jx (edgR dn ++ pre.map fun k => (ptAt y.pts k.1, ptAt y.pts (nxt y.pts k.1))) V3 ∧ ∀ D ∈ ds, W.heap.size ≤ D ∧ V3.heap[D]? = some (.deferred (some [])))
        (fun s X Y row hs hg hr => ⟨⟨hJ _ X Y row hs.1.1 hg (fun r e => ⟨by have := (hr r e).1; omega, (hr r e).2⟩), lies_own (β := Unit) _ _ _ () X Y row hs.1.2.1 hg (fun r e => (hr r e).2), lies_own (β := Unit) _ _ _ () X Y row hs.1.2.2.1 hg (fun r e => (hr r e).2), fun D hD => ⟨(hs.1.2.2.2 D hD).1, (hg.block D (Array.getElem?_eq_some_iff.1 (hs.1.2.2.2 D hD).2).1 (fun e => by have := (hr D e.symm).1; have := hdsV D hD; omega)).trans (hs.1.2.2.2 D hD).2⟩⟩, ⟨ownFrom_below (β := Unit) (n₀ := n₀) (B := V2.heap.size) (w₀ := V) (by omega) (by omega) () X Y row hs.2.1 hg hr, fun k cs t ht h => (hg.block k (Array.getElem?_eq_some_iff.1 (hs.2.2 k cs t ht h)).1 (fun e => by obtain ⟨_, o, ho, hc⟩ := hr k e.symm; rw [hs.2.2 k cs t ht h] at ho; cases ho; cases hc)).trans (hs.2.2 k cs t ht h)⟩⟩)
        (fun c s X Y row hs hg hr => ⟨hs.1, hJx _ X Y row hs.2.1 hg (fun r e => ⟨by have := (hr r e).1; omega, (hr r e).2⟩), fun D hD => ⟨(hs.2.2 D hD).1, (hg.block D (Array.getElem?_eq_some_iff.1 (hs.2.2 D hD).2).1 (fun e => by have := (hr D e.symm).1; have := hdsV D hD; omega)).trans (hs.2.2 D hD).2⟩⟩)
        ⟨⟨by simpa using hJ2, LY2, BL, hds2⟩, hK2⟩
        (fun x a' V3 => ∃ Bx, Lies Bx #[.int .i64 (ptAt y.pts x.1).1, .int .i64 (ptAt y.pts x.1).2, .int .i64 (ptAt y.pts (nxt y.pts x.1)).1, .int .i64 (ptAt y.pts (nxt y.pts x.1)).2] 62 V3 ∧ a' = { tmps := #[.func (.yield l) #[] #[], .pointer (some ⟨B, 0, none⟩), .pointer (some ⟨W.heap.size, 0, none⟩), .pointer (some ⟨b, 0, none⟩), undef, .pointer (some ⟨Bx, 0, none⟩), .pointer q, .pointer (some ⟨b, 0, none⟩), .bool true, u9, u10, u11, u12, .pointer (some ⟨b, 0, none⟩), .pointer (some ⟨b, 0, none⟩), .pointer (some ⟨b, 0, none⟩), .slice y.a y.len y.cap, .func (.func 119) #[] #[.pointer (some ⟨V.heap.size, 0, none⟩)], .int .i64 (x.1 : Int), .agg #[.int .i64 (ptAt y.pts x.1).1, .int .i64 (ptAt y.pts x.1).2, .int .i64 (ptAt y.pts (nxt y.pts x.1)).1, .int .i64 (ptAt y.pts (nxt y.pts x.1)).2], undef, undef, undef, undef], defers := [] })
        (fun x a' _ X Y row hs hg hr => by obtain ⟨Bx, e2, e3⟩ := hs; exact ⟨Bx, lies_own (β := Unit) Bx _ _ () X Y row e2 hg (fun r e => (hr r e).2), e3⟩)
        ?assign ?body ?done ?stop
      case assign =>
        rintro l' pre x V3 K ⟨⟨hj, L1, L2, hd⟩, hk3⟩ hK
        unfold encE
        have zV3 := hk3.1.size
        have hB3 : Below V3.heap.size V3 (V3.alloc (.cells #[.int .i64 (ptAt y.pts x.1).1, .int .i64 (ptAt y.pts x.1).2, .int .i64 (ptAt y.pts (nxt y.pts x.1)).1, .int .i64 (ptAt y.pts (nxt y.pts x.1)).2] 62)) := (by repeat (first | exact bw_refl _ | assumption | apply bw_drewN | apply bw_drew | apply bw_alloc | refine bw_set ?_ (by simp) _))
        gi_wp2
        exact hK _ _ ((KeepsOthers.alloc _ _).from _) (KB.of_below hB3 (by omega) L2.lt) ⟨⟨hJ.alloc _ hj, L1.below hB3, L2.below hB3, fun D hD => ⟨(hd D hD).1, (hB3.block D (Array.getElem?_eq_some_iff.1 (hd D hD).2).1).trans (hd D hD).2⟩⟩, hk3.trans (KT.of_below hB3 (by omega))⟩ ⟨V3.heap.size, Lies.new V3 _ _, rfl⟩
      case body =>
        rintro l' pre x a' V3 hl2 ⟨r, hr'⟩ ⟨⟨hj, L1, L2, hd⟩, hk3⟩ ⟨Bx, bX, rfl⟩ hlt
        obtain ⟨k, hkk⟩ := x
        dsimp only at *
        have cY := L1.c1
        obtain ⟨cx0, cx1, cx2, cx3⟩ := bX.c4
        have hlen : (edgR dn ++ pre.map fun k => (ptAt y.pts k.1, ptAt y.pts (nxt y.pts k.1))).length < (edgR rs).length := by
          rw [hrs]; simp only [edgR, List.flatMap_append, List.flatMap_cons, List.length_append, List.length_map, segsL_len]; omega
        obtain ⟨fn, tmps, assign, body, hy, hRd⟩ := hY _ (ptAt y.pts k, ptAt y.pts (nxt y.pts k)) V3 hj hlen
        dsimp only [segE] at hy
        have hR2 := fun m' => roundIn_any (m' := m') hRd l'
        clear hRd
        gi_wp2_with fail
        refine ⟨fun _ => by omega, ?_⟩
        refine (hR2 _).mono ?_
        rintro e V4 ⟨yes, rfl, hkf4, hyes, hno⟩
        cases yes
        · have hx4 := hno rfl
          clear hyes hno
          gi_wp2
          refine ⟨keeps_far hkf4 (by omega), rfl, ?_, fun D hD => ⟨(hd D hD).1, hkf4.same D _ (hd D hD).1 (hd D hD).2 rfl⟩⟩
          rw [List.map_append, ← List.append_assoc]; exact hx4
        · obtain ⟨hj4, hk4⟩ := hyes rfl
          clear hyes hno
          have L2' := hk4.lies (.inl rfl) L2
          gi_wp2
          refine ⟨keeps_far hkf4 (by omega), ⟨hk4.1, L2'.trans L2.symm⟩, ⟨?_, hk4.lies (.inr rfl) L1, L2', fun D hD => ⟨(hd D hD).1, hkf4.same D _ (hd D hD).1 (hd D hD).2 rfl⟩⟩, hk3.trans hk4⟩
          rw [List.map_append, ← List.append_assoc]; exact hj4
      case done =>
        rintro D zs V3 hD rfl ⟨⟨hj, L1, L2, hd⟩, hk3⟩ hKD
        have hj' : J (edgR (dn ++ [y])) V3 := by
          rw [segsL_fin] at hj; simpa [edgR] using hj
        clear hj
        obtain ⟨c0', c1', _, _⟩ := lies2 (show Lies b #[.slice y.a y.len y.cap, .pointer q'] t V3 from (hk3.1.block b hb).trans hL)
        gi_wp2
        have hRn := hr.keep hk3.1
        refine ⟨⟨dn ++ [y], ys, q', D :: ds, _, _, _, _, _, _, _, _, _, _, _, by simp [hrs], hRn, hj', hkt.trans hk3, L1, ?_, ?_, rfl⟩, ?_⟩
        · intro E hE
          rcases List.mem_cons.1 hE with rfl | hE
          · exact ⟨by omega, hKD⟩
          · exact hd E hE
        · rw [List.nodup_cons]
          exact ⟨fun h => by have := hdsV D h; omega, hnd⟩
        · show ringsLeft V3 (.pointer q') < ringsLeft V (.pointer (some ⟨b, 0, none⟩))
          rw [ringsLeft_eq hRn.ringL, ringsLeft_eq (xs := y :: ys) ⟨b, q', t, rfl, hL, hyl, hP, hr.ringL⟩]; simp
      case stop =>
        rintro D c pre V3 hD ⟨k, hk, rfl⟩ ⟨rfl, hx, hd⟩ hK
        have hq0 : (edgR dn ++ (upto y.pts.length k).map fun k => (ptAt y.pts k.1, ptAt y.pts (nxt y.pts k.1))) <+: edgR rs := by
          rw [hrs]
          have e : edgR (dn ++ y :: ys) = edgR dn ++ (segsL y.pts ++ edgR ys) := by simp [edgR]
          rw [e, List.prefix_append_right_inj, ← segsL_fin]
          exact ((List.take_prefix k _).map _).trans (List.prefix_append _ _)
        gi_wp2
        refine leaves_marks (fun V => ∃ pre, pre <+: edgR rs ∧ Jx pre V) W.heap.size (fun V D o hBD hD hj => hj.imp fun q hq => ⟨hq.1, hJx.putObj _ hq.2 hBD hD rfl⟩) (fun V hg => ⟨_, results_none rfl _ _ _, ⟨_, rfl⟩, .inr hg⟩) (D :: ds) V3 ?_ ?_ ⟨_, hq0, hx⟩
        · rw [List.nodup_cons]
          exact ⟨fun h => by have := hdsV D h; omega, hnd⟩
        · intro E hE
          rcases List.mem_cons.1 hE with rfl | hE
          · exact ⟨by omega, hK⟩
          · exact hd E hE
end Go.Proofs.YtmdjhoknlplecaaGreatDoor
namespace Go.Proofs.YtmdjhoknlplecaaGreatDoor
open Go.RowKit Go.Sort

theorem cmpI_lt (x y : Int) (h : x < y) : cmpI x y = -1 := by unfold cmpI; rw [if_pos h]
theorem cmpI_ge (x y : Int) (h : ¬ x < y) : ¬ cmpI x y < 0 := by unfold cmpI; rw [if_neg h]; split <;> omega
/-- The block of three fractions. -/
def Three (w : World) (b : Nat) (f g h : Int × Int) : Prop := w.heap[b]? = some (.cells #[.int .i64 f.1, .int .i64 f.2, .int .i64 g.1, .int .i64 g.2, .int .i64 h.1, .int .i64 h.2] 47 (0, 0))
theorem setO2 {w : World} {b b' i j : Nat} {v u : Value} {o : Obj} (h : w.heap[b']? = some o) (hne : b' ≠ b) : ((w.setCell ⟨b, i, none⟩ v).setCell ⟨b, j, none⟩ u).heap[b']? = some o := by
  rw [Below.heap_setCell _ _ _ _ (by show b' ≠ b; exact hne), Below.heap_setCell _ _ _ _ (by show b' ≠ b; exact hne)]; exact h
theorem blk_6 {w : World} {b : Nat} {x0 x1 x2 x3 x4 x5 : Value} {t : TypeId} (h : w.heap[b]? = some (.cells #[x0, x1, x2, x3, x4, x5] t (0, 0))) :
    w.cell? ⟨b, 0, none⟩ = some x0 ∧ w.cell? ⟨b, 1, none⟩ = some x1 ∧ w.cell? ⟨b, 2, none⟩ = some x2 ∧ w.cell? ⟨b, 3, none⟩ = some x3 ∧ w.cell? ⟨b, 4, none⟩ = some x4 ∧ w.cell? ⟨b, 5, none⟩ = some x5 := by
  refine ⟨?_, ?_, ?_, ?_, ?_, ?_⟩ <;> simp [World.cell?, h]
set_option maxHeartbeats 2000000 in
theorem least_ok (f0 f1 f2 f3 : Int × Int) (bs : Nat) (ad : Addr) (w : World) (h0 : Sent ad w) (o0 : OkF f0) (o1 : OkF f1) (o2 : OkF f2) (o3 : OkF f3) (TH : Three w bs f1 f2 f3) :
    Calls Tryz.prog 70 #[.agg #[.int .i64 f0.1, .int .i64 f0.2], .slice (some ⟨bs, 0, none⟩) 3 3] w fun e w' => e = .returned (.agg #[.int .i64 (mnA f0 f1 f2 f3).1, .int .i64 (mnA f0 f1 f2 f3).2]) ∧ Below w.heap.size w w' := by
  unfold Three at TH
  have zb := blk_lt TH
  obtain ⟨W, hW, H, _, RB, LB⟩ := boxes3 w (.cells #[.int .i64 f0.1, .int .i64 f0.2] 47) (.cells #[.int .i64 0, .int .i64 0] 47) (.cells #[.int .i64 f0.1, .int .i64 f0.2] 47)
  replace TH := keep H TH
  have nb : bs ≠ w.heap.size + 1 ∧ bs ≠ w.heap.size + 2 := by omega
  obtain ⟨nb1, nb2⟩ := nb
  go_enter Tryz.func70, Tryz.ntmps70
  go_upto_region 3 with fail
  rw [← hW]
  clear hW
  refine wp_loop_rounds 4 ?_
  rw [rounds_succ]
  obtain ⟨t0, t1, t2, t3, t4, t5⟩ := blk_6 TH
  obtain ⟨l0, l1⟩ := blk_2 LB
  have zl := blk_lt LB
  have zt := blk_lt TH
  have hs1 := h0.below H
  by_cases c1 : f1.1 * f0.2 < f0.1 * f1.2
  · have m1 : mn f0 f1 = f1 := if_pos c1
    have e1 := cmpI_lt _ _ c1
    clear c1
    go_wp2_with fail
    refine (fracCmp_both f1.1 f1.2 f0.1 f0.2 ad _ (hs1.below (bw_alloc (bw_refl _) _)) o1 o0).mono ?_
    rw [e1]
    rintro e w1 ⟨rfl, K⟩
    have FB := keep K (heap_new _ _)
    replace LB := keep K ((heap_old _ _ (blk_lt LB)).trans LB)
    replace RB := keep K ((heap_old _ _ (blk_lt RB)).trans RB)
    replace TH := keep K ((heap_old _ _ (blk_lt TH)).trans TH)
    replace H := bw_trans (bw_alloc H _) K
    clear t0 t1 t2 t3 t4 t5 l0 l1 K hs1
    have zf := blk_lt FB
    have zl1 := blk_lt LB
    obtain ⟨u0, u1⟩ := blk_2 FB
    obtain ⟨q0, q1, qf0, qf1⟩ := blkF LB
    go_wp2_with fail
    replace LB := setF2 LB (u0 := .int .i64 f1.1) (u1 := .int .i64 f1.2)
    replace RB := setO2 RB (b := w.heap.size + 2) (i := 0) (j := 1) (v := .int .i64 f1.1) (u := .int .i64 f1.2) (by omega)
    replace TH := setO2 TH (b := w.heap.size + 2) (i := 0) (j := 1) (v := .int .i64 f1.1) (u := .int .i64 f1.2) (by omega)
    replace H := bw_set (bw_set H (p := ⟨w.heap.size + 2, 0, none⟩) (by dsimp only; omega) (.int .i64 f1.1)) (p := ⟨w.heap.size + 2, 1, none⟩) (by dsimp only; omega) (.int .i64 f1.2)
    clear q0 q1 qf0 qf1 e1
    generalize ((w1.setCell ⟨w.heap.size + 2, 0, none⟩ (.int .i64 f1.1)).setCell ⟨w.heap.size + 2, 1, none⟩ (.int .i64 f1.2)) = V1 at LB RB TH H ⊢
    clear u0 u1 FB zf zl zl1 zt
    rw [rounds_succ]
    obtain ⟨t0, t1, t2, t3, t4, t5⟩ := blk_6 TH
    obtain ⟨l0, l1⟩ := blk_2 LB
    have zl := blk_lt LB
    have zt := blk_lt TH
    have hs2 := h0.below H
    by_cases c2 : f2.1 * f1.2 < f1.1 * f2.2
    · have m2 : mn f1 f2 = f2 := if_pos c2
      have e2 := cmpI_lt _ _ c2
      clear c2
      go_wp2_with fail
      refine (fracCmp_both f2.1 f2.2 f1.1 f1.2 ad _ (hs2.below (bw_alloc (bw_refl _) _)) o2 o1).mono ?_
      rw [e2]
      rintro e w2 ⟨rfl, K⟩
      have FB := keep K (heap_new _ _)
      replace LB := keep K ((heap_old _ _ (blk_lt LB)).trans LB)
      replace RB := keep K ((heap_old _ _ (blk_lt RB)).trans RB)
      replace TH := keep K ((heap_old _ _ (blk_lt TH)).trans TH)
      replace H := bw_trans (bw_alloc H _) K
      clear t0 t1 t2 t3 t4 t5 l0 l1 K hs2
      have zf := blk_lt FB
      have zl2 := blk_lt LB
      obtain ⟨u0, u1⟩ := blk_2 FB
      obtain ⟨q0, q1, qf0, qf1⟩ := blkF LB
      go_wp2_with fail
      replace LB := setF2 LB (u0 := .int .i64 f2.1) (u1 := .int .i64 f2.2)
      replace RB := setO2 RB (b := w.heap.size + 2) (i := 0) (j := 1) (v := .int .i64 f2.1) (u := .int .i64 f2.2) (by omega)
      replace TH := setO2 TH (b := w.heap.size + 2) (i := 0) (j := 1) (v := .int .i64 f2.1) (u := .int .i64 f2.2) (by omega)
      replace H := bw_set (bw_set H (p := ⟨w.heap.size + 2, 0, none⟩) (by dsimp only; omega) (.int .i64 f2.1)) (p := ⟨w.heap.size + 2, 1, none⟩) (by dsimp only; omega) (.int .i64 f2.2)
      clear q0 q1 qf0 qf1 e2
      generalize ((w2.setCell ⟨w.heap.size + 2, 0, none⟩ (.int .i64 f2.1)).setCell ⟨w.heap.size + 2, 1, none⟩ (.int .i64 f2.2)) = V2 at LB RB TH H ⊢
      clear u0 u1 FB zf zl zl2 zt
      rw [rounds_succ]
      obtain ⟨t0, t1, t2, t3, t4, t5⟩ := blk_6 TH
      obtain ⟨l0, l1⟩ := blk_2 LB
      have zl := blk_lt LB
      have zt := blk_lt TH
      have hs3 := h0.below H
      by_cases c3 : f3.1 * f2.2 < f2.1 * f3.2
      · have m3 : mn f2 f3 = f3 := if_pos c3
        have e3 := cmpI_lt _ _ c3
        clear c3
        go_wp2_with fail
        refine (fracCmp_both f3.1 f3.2 f2.1 f2.2 ad _ (hs3.below (bw_alloc (bw_refl _) _)) o3 o2).mono ?_
        rw [e3]
        rintro e w3 ⟨rfl, K⟩
        have FB := keep K (heap_new _ _)
        replace LB := keep K ((heap_old _ _ (blk_lt LB)).trans LB)
        replace RB := keep K ((heap_old _ _ (blk_lt RB)).trans RB)
        replace TH := keep K ((heap_old _ _ (blk_lt TH)).trans TH)
        replace H := bw_trans (bw_alloc H _) K
        clear t0 t1 t2 t3 t4 t5 l0 l1 K hs3
        have zf := blk_lt FB
        have zl3 := blk_lt LB
        obtain ⟨u0, u1⟩ := blk_2 FB
        obtain ⟨q0, q1, qf0, qf1⟩ := blkF LB
        go_wp2_with fail
        replace LB := setF2 LB (u0 := .int .i64 f3.1) (u1 := .int .i64 f3.2)
        replace RB := setO2 RB (b := w.heap.size + 2) (i := 0) (j := 1) (v := .int .i64 f3.1) (u := .int .i64 f3.2) (by omega)
        replace TH := setO2 TH (b := w.heap.size + 2) (i := 0) (j := 1) (v := .int .i64 f3.1) (u := .int .i64 f3.2) (by omega)
        replace H := bw_set (bw_set H (p := ⟨w.heap.size + 2, 0, none⟩) (by dsimp only; omega) (.int .i64 f3.1)) (p := ⟨w.heap.size + 2, 1, none⟩) (by dsimp only; omega) (.int .i64 f3.2)
        clear q0 q1 qf0 qf1 e3
        generalize ((w3.setCell ⟨w.heap.size + 2, 0, none⟩ (.int .i64 f3.1)).setCell ⟨w.heap.size + 2, 1, none⟩ (.int .i64 f3.2)) = V3 at LB RB TH H ⊢
        clear u0 u1 FB zf zl zl3 zt
        rw [rounds_succ]
        obtain ⟨l0, l1⟩ := blk_2 LB
        have zl := blk_lt LB
        have zr := blk_lt RB
        obtain ⟨q0, q1, qf0, qf1⟩ := blkF RB
        have R2 := setF2 RB (u0 := .int .i64 f3.1) (u1 := .int .i64 f3.2)
        obtain ⟨r0, r1⟩ := blk_2 R2
        have HB : Hid _ := H
        have e1 : Hid (mnA f0 f1 f2 f3 = f3) := by change _ = _; unfold mnA; rw [m1, m2, m3]
        clear R2 RB LB TH H m1 m2 m3
        go_wp2_with fail
        exact bodyPost_ret (v := .agg #[.int .i64 f3.1, .int .i64 f3.2]) (by simp [results, Tryz.results70, go_sem, r0, r1]) rfl ⟨by rw [e1.out], by repeat (first | with_reducible exact HB.out | with_reducible refine bw_set ?_ (by dsimp only; omega) _)⟩
      · have m3 : mn f2 f3 = f2 := if_neg c3
        have g3 := cmpI_ge _ _ c3
        generalize hx3 : cmpI (f3.1 * f2.2) (f2.1 * f3.2) = x3 at g3
        have HX3 : Hid (cmpI (f3.1 * f2.2) (f2.1 * f3.2) = x3) := hx3
        have p3 : 0 ≤ x3 := by omega
        clear hx3 g3
        clear c3
        go_wp2_with fail
        refine (fracCmp_both f3.1 f3.2 f2.1 f2.2 ad _ (hs3.below (bw_alloc (bw_refl _) _)) o3 o2).mono ?_
        rw [HX3.out]
        rintro e w3 ⟨rfl, K⟩
        have FB := keep K (heap_new _ _)
        replace LB := keep K ((heap_old _ _ (blk_lt LB)).trans LB)
        replace RB := keep K ((heap_old _ _ (blk_lt RB)).trans RB)
        replace TH := keep K ((heap_old _ _ (blk_lt TH)).trans TH)
        replace H := bw_trans (bw_alloc H _) K
        clear t0 t1 t2 t3 t4 t5 l0 l1 K hs3
        have zf := blk_lt FB
        have zl3 := blk_lt LB
        obtain ⟨u0, u1⟩ := blk_2 FB
        go_wp2_with fail
        clear u0 u1 FB zf zl zl3 zt
        rw [rounds_succ]
        obtain ⟨l0, l1⟩ := blk_2 LB
        have zl := blk_lt LB
        have zr := blk_lt RB
        obtain ⟨q0, q1, qf0, qf1⟩ := blkF RB
        have R2 := setF2 RB (u0 := .int .i64 f2.1) (u1 := .int .i64 f2.2)
        obtain ⟨r0, r1⟩ := blk_2 R2
        have HB : Hid _ := H
        have e1 : Hid (mnA f0 f1 f2 f3 = f2) := by change _ = _; unfold mnA; rw [m1, m2, m3]
        clear R2 RB LB TH H m1 m2 m3
        go_wp2_with fail
        exact bodyPost_ret (v := .agg #[.int .i64 f2.1, .int .i64 f2.2]) (by simp [results, Tryz.results70, go_sem, r0, r1]) rfl ⟨by rw [e1.out], by repeat (first | with_reducible exact HB.out | with_reducible refine bw_set ?_ (by dsimp only; omega) _)⟩
    · have m2 : mn f1 f2 = f1 := if_neg c2
      have g2 := cmpI_ge _ _ c2
      generalize hx2 : cmpI (f2.1 * f1.2) (f1.1 * f2.2) = x2 at g2
      have HX2 : Hid (cmpI (f2.1 * f1.2) (f1.1 * f2.2) = x2) := hx2
      have p2 : 0 ≤ x2 := by omega
      clear hx2 g2
      clear c2
      go_wp2_with fail
      refine (fracCmp_both f2.1 f2.2 f1.1 f1.2 ad _ (hs2.below (bw_alloc (bw_refl _) _)) o2 o1).mono ?_
      rw [HX2.out]
      rintro e w2 ⟨rfl, K⟩
      have FB := keep K (heap_new _ _)
      replace LB := keep K ((heap_old _ _ (blk_lt LB)).trans LB)
      replace RB := keep K ((heap_old _ _ (blk_lt RB)).trans RB)
      replace TH := keep K ((heap_old _ _ (blk_lt TH)).trans TH)
      replace H := bw_trans (bw_alloc H _) K
      clear t0 t1 t2 t3 t4 t5 l0 l1 K hs2
      have zf := blk_lt FB
      have zl2 := blk_lt LB
      obtain ⟨u0, u1⟩ := blk_2 FB
      go_wp2_with fail
      clear u0 u1 FB zf zl zl2 zt
      rw [rounds_succ]
      obtain ⟨t0, t1, t2, t3, t4, t5⟩ := blk_6 TH
      obtain ⟨l0, l1⟩ := blk_2 LB
      have zl := blk_lt LB
      have zt := blk_lt TH
      have hs3 := h0.below H
      by_cases c3 : f3.1 * f1.2 < f1.1 * f3.2
      · have m3 : mn f1 f3 = f3 := if_pos c3
        have e3 := cmpI_lt _ _ c3
        clear c3
        go_wp2_with fail
        refine (fracCmp_both f3.1 f3.2 f1.1 f1.2 ad _ (hs3.below (bw_alloc (bw_refl _) _)) o3 o1).mono ?_
        rw [e3]
        rintro e w3 ⟨rfl, K⟩
        have FB := keep K (heap_new _ _)
        replace LB := keep K ((heap_old _ _ (blk_lt LB)).trans LB)
        replace RB := keep K ((heap_old _ _ (blk_lt RB)).trans RB)
        replace TH := keep K ((heap_old _ _ (blk_lt TH)).trans TH)
        replace H := bw_trans (bw_alloc H _) K
        clear t0 t1 t2 t3 t4 t5 l0 l1 K hs3
        have zf := blk_lt FB
        have zl3 := blk_lt LB
        obtain ⟨u0, u1⟩ := blk_2 FB
        obtain ⟨q0, q1, qf0, qf1⟩ := blkF LB
        go_wp2_with fail
        replace LB := setF2 LB (u0 := .int .i64 f3.1) (u1 := .int .i64 f3.2)
        replace RB := setO2 RB (b := w.heap.size + 2) (i := 0) (j := 1) (v := .int .i64 f3.1) (u := .int .i64 f3.2) (by omega)
        replace TH := setO2 TH (b := w.heap.size + 2) (i := 0) (j := 1) (v := .int .i64 f3.1) (u := .int .i64 f3.2) (by omega)
        replace H := bw_set (bw_set H (p := ⟨w.heap.size + 2, 0, none⟩) (by dsimp only; omega) (.int .i64 f3.1)) (p := ⟨w.heap.size + 2, 1, none⟩) (by dsimp only; omega) (.int .i64 f3.2)
        clear q0 q1 qf0 qf1 e3
        generalize ((w3.setCell ⟨w.heap.size + 2, 0, none⟩ (.int .i64 f3.1)).setCell ⟨w.heap.size + 2, 1, none⟩ (.int .i64 f3.2)) = V3 at LB RB TH H ⊢
        clear u0 u1 FB zf zl zl3 zt
        rw [rounds_succ]
        obtain ⟨l0, l1⟩ := blk_2 LB
        have zl := blk_lt LB
        have zr := blk_lt RB
        obtain ⟨q0, q1, qf0, qf1⟩ := blkF RB
        have R2 := setF2 RB (u0 := .int .i64 f3.1) (u1 := .int .i64 f3.2)
        obtain ⟨r0, r1⟩ := blk_2 R2
        have HB : Hid _ := H
        have e1 : Hid (mnA f0 f1 f2 f3 = f3) := by change _ = _; unfold mnA; rw [m1, m2, m3]
        clear R2 RB LB TH H m1 m2 m3
        go_wp2_with fail
        exact bodyPost_ret (v := .agg #[.int .i64 f3.1, .int .i64 f3.2]) (by simp [results, Tryz.results70, go_sem, r0, r1]) rfl ⟨by rw [e1.out], by repeat (first | with_reducible exact HB.out | with_reducible refine bw_set ?_ (by dsimp only; omega) _)⟩
      · have m3 : mn f1 f3 = f1 := if_neg c3
        have g3 := cmpI_ge _ _ c3
        generalize hx3 : cmpI (f3.1 * f1.2) (f1.1 * f3.2) = x3 at g3
        have HX3 : Hid (cmpI (f3.1 * f1.2) (f1.1 * f3.2) = x3) := hx3
        have p3 : 0 ≤ x3 := by omega
        clear hx3 g3
        clear c3
        go_wp2_with fail
        refine (fracCmp_both f3.1 f3.2 f1.1 f1.2 ad _ (hs3.below (bw_alloc (bw_refl _) _)) o3 o1).mono ?_
        rw [HX3.out]
        rintro e w3 ⟨rfl, K⟩
        have FB := keep K (heap_new _ _)
        replace LB := keep K ((heap_old _ _ (blk_lt LB)).trans LB)
        replace RB := keep K ((heap_old _ _ (blk_lt RB)).trans RB)
        replace TH := keep K ((heap_old _ _ (blk_lt TH)).trans TH)
        replace H := bw_trans (bw_alloc H _) K
        clear t0 t1 t2 t3 t4 t5 l0 l1 K hs3
        have zf := blk_lt FB
        have zl3 := blk_lt LB
        obtain ⟨u0, u1⟩ := blk_2 FB
        go_wp2_with fail
        clear u0 u1 FB zf zl zl3 zt
        rw [rounds_succ]
        obtain ⟨l0, l1⟩ := blk_2 LB
        have zl := blk_lt LB
        have zr := blk_lt RB
        obtain ⟨q0, q1, qf0, qf1⟩ := blkF RB
        have R2 := setF2 RB (u0 := .int .i64 f1.1) (u1 := .int .i64 f1.2)
        obtain ⟨r0, r1⟩ := blk_2 R2
        have HB : Hid _ := H
        have e1 : Hid (mnA f0 f1 f2 f3 = f1) := by change _ = _; unfold mnA; rw [m1, m2, m3]
        clear R2 RB LB TH H m1 m2 m3
        go_wp2_with fail
        exact bodyPost_ret (v := .agg #[.int .i64 f1.1, .int .i64 f1.2]) (by simp [results, Tryz.results70, go_sem, r0, r1]) rfl ⟨by rw [e1.out], by repeat (first | with_reducible exact HB.out | with_reducible refine bw_set ?_ (by dsimp only; omega) _)⟩
  · have m1 : mn f0 f1 = f0 := if_neg c1
    have g1 := cmpI_ge _ _ c1
    generalize hx1 : cmpI (f1.1 * f0.2) (f0.1 * f1.2) = x1 at g1
    have HX1 : Hid (cmpI (f1.1 * f0.2) (f0.1 * f1.2) = x1) := hx1
    have p1 : 0 ≤ x1 := by omega
    clear hx1 g1
    clear c1
    go_wp2_with fail
    refine (fracCmp_both f1.1 f1.2 f0.1 f0.2 ad _ (hs1.below (bw_alloc (bw_refl _) _)) o1 o0).mono ?_
    rw [HX1.out]
    rintro e w1 ⟨rfl, K⟩
    have FB := keep K (heap_new _ _)
    replace LB := keep K ((heap_old _ _ (blk_lt LB)).trans LB)
    replace RB := keep K ((heap_old _ _ (blk_lt RB)).trans RB)
    replace TH := keep K ((heap_old _ _ (blk_lt TH)).trans TH)
    replace H := bw_trans (bw_alloc H _) K
    clear t0 t1 t2 t3 t4 t5 l0 l1 K hs1
    have zf := blk_lt FB
    have zl1 := blk_lt LB
    obtain ⟨u0, u1⟩ := blk_2 FB
    go_wp2_with fail
    clear u0 u1 FB zf zl zl1 zt
    rw [rounds_succ]
    obtain ⟨t0, t1, t2, t3, t4, t5⟩ := blk_6 TH
    obtain ⟨l0, l1⟩ := blk_2 LB
    have zl := blk_lt LB
    have zt := blk_lt TH
    have hs2 := h0.below H
    by_cases c2 : f2.1 * f0.2 < f0.1 * f2.2
    · have m2 : mn f0 f2 = f2 := if_pos c2
      have e2 := cmpI_lt _ _ c2
      clear c2
      go_wp2_with fail
      refine (fracCmp_both f2.1 f2.2 f0.1 f0.2 ad _ (hs2.below (bw_alloc (bw_refl _) _)) o2 o0).mono ?_
      rw [e2]
      rintro e w2 ⟨rfl, K⟩
      have FB := keep K (heap_new _ _)
      replace LB := keep K ((heap_old _ _ (blk_lt LB)).trans LB)
      replace RB := keep K ((heap_old _ _ (blk_lt RB)).trans RB)
      replace TH := keep K ((heap_old _ _ (blk_lt TH)).trans TH)
      replace H := bw_trans (bw_alloc H _) K
      clear t0 t1 t2 t3 t4 t5 l0 l1 K hs2
      have zf := blk_lt FB
      have zl2 := blk_lt LB
      obtain ⟨u0, u1⟩ := blk_2 FB
      obtain ⟨q0, q1, qf0, qf1⟩ := blkF LB
      go_wp2_with fail
      replace LB := setF2 LB (u0 := .int .i64 f2.1) (u1 := .int .i64 f2.2)
      replace RB := setO2 RB (b := w.heap.size + 2) (i := 0) (j := 1) (v := .int .i64 f2.1) (u := .int .i64 f2.2) (by omega)
      replace TH := setO2 TH (b := w.heap.size + 2) (i := 0) (j := 1) (v := .int .i64 f2.1) (u := .int .i64 f2.2) (by omega)
      replace H := bw_set (bw_set H (p := ⟨w.heap.size + 2, 0, none⟩) (by dsimp only; omega) (.int .i64 f2.1)) (p := ⟨w.heap.size + 2, 1, none⟩) (by dsimp only; omega) (.int .i64 f2.2)
      clear q0 q1 qf0 qf1 e2
      generalize ((w2.setCell ⟨w.heap.size + 2, 0, none⟩ (.int .i64 f2.1)).setCell ⟨w.heap.size + 2, 1, none⟩ (.int .i64 f2.2)) = V2 at LB RB TH H ⊢
      clear u0 u1 FB zf zl zl2 zt
      rw [rounds_succ]
      obtain ⟨t0, t1, t2, t3, t4, t5⟩ := blk_6 TH
      obtain ⟨l0, l1⟩ := blk_2 LB
      have zl := blk_lt LB
      have zt := blk_lt TH
      have hs3 := h0.below H
      by_cases c3 : f3.1 * f2.2 < f2.1 * f3.2
      · have m3 : mn f2 f3 = f3 := if_pos c3
        have e3 := cmpI_lt _ _ c3
        clear c3
        go_wp2_with fail
        refine (fracCmp_both f3.1 f3.2 f2.1 f2.2 ad _ (hs3.below (bw_alloc (bw_refl _) _)) o3 o2).mono ?_
        rw [e3]
        rintro e w3 ⟨rfl, K⟩
        have FB := keep K (heap_new _ _)
        replace LB := keep K ((heap_old _ _ (blk_lt LB)).trans LB)
        replace RB := keep K ((heap_old _ _ (blk_lt RB)).trans RB)
        replace TH := keep K ((heap_old _ _ (blk_lt TH)).trans TH)
        replace H := bw_trans (bw_alloc H _) K
        clear t0 t1 t2 t3 t4 t5 l0 l1 K hs3
        have zf := blk_lt FB
        have zl3 := blk_lt LB
        obtain ⟨u0, u1⟩ := blk_2 FB
        obtain ⟨q0, q1, qf0, qf1⟩ := blkF LB
        go_wp2_with fail
        replace LB := setF2 LB (u0 := .int .i64 f3.1) (u1 := .int .i64 f3.2)
        replace RB := setO2 RB (b := w.heap.size + 2) (i := 0) (j := 1) (v := .int .i64 f3.1) (u := .int .i64 f3.2) (by omega)
        replace TH := setO2 TH (b := w.heap.size + 2) (i := 0) (j := 1) (v := .int .i64 f3.1) (u := .int .i64 f3.2) (by omega)
        replace H := bw_set (bw_set H (p := ⟨w.heap.size + 2, 0, none⟩) (by dsimp only; omega) (.int .i64 f3.1)) (p := ⟨w.heap.size + 2, 1, none⟩) (by dsimp only; omega) (.int .i64 f3.2)
        clear q0 q1 qf0 qf1 e3
        generalize ((w3.setCell ⟨w.heap.size + 2, 0, none⟩ (.int .i64 f3.1)).setCell ⟨w.heap.size + 2, 1, none⟩ (.int .i64 f3.2)) = V3 at LB RB TH H ⊢
        clear u0 u1 FB zf zl zl3 zt
        rw [rounds_succ]
        obtain ⟨l0, l1⟩ := blk_2 LB
        have zl := blk_lt LB
        have zr := blk_lt RB
        obtain ⟨q0, q1, qf0, qf1⟩ := blkF RB
        have R2 := setF2 RB (u0 := .int .i64 f3.1) (u1 := .int .i64 f3.2)
        obtain ⟨r0, r1⟩ := blk_2 R2
        have HB : Hid _ := H
        have e1 : Hid (mnA f0 f1 f2 f3 = f3) := by change _ = _; unfold mnA; rw [m1, m2, m3]
        clear R2 RB LB TH H m1 m2 m3
        go_wp2_with fail
        exact bodyPost_ret (v := .agg #[.int .i64 f3.1, .int .i64 f3.2]) (by simp [results, Tryz.results70, go_sem, r0, r1]) rfl ⟨by rw [e1.out], by repeat (first | with_reducible exact HB.out | with_reducible refine bw_set ?_ (by dsimp only; omega) _)⟩
      · have m3 : mn f2 f3 = f2 := if_neg c3
        have g3 := cmpI_ge _ _ c3
        generalize hx3 : cmpI (f3.1 * f2.2) (f2.1 * f3.2) = x3 at g3
        have HX3 : Hid (cmpI (f3.1 * f2.2) (f2.1 * f3.2) = x3) := hx3
        have p3 : 0 ≤ x3 := by omega
        clear hx3 g3
        clear c3
        go_wp2_with fail
        refine (fracCmp_both f3.1 f3.2 f2.1 f2.2 ad _ (hs3.below (bw_alloc (bw_refl _) _)) o3 o2).mono ?_
        rw [HX3.out]
        rintro e w3 ⟨rfl, K⟩
        have FB := keep K (heap_new _ _)
        replace LB := keep K ((heap_old _ _ (blk_lt LB)).trans LB)
        replace RB := keep K ((heap_old _ _ (blk_lt RB)).trans RB)
        replace TH := keep K ((heap_old _ _ (blk_lt TH)).trans TH)
        replace H := bw_trans (bw_alloc H _) K
        clear t0 t1 t2 t3 t4 t5 l0 l1 K hs3
        have zf := blk_lt FB
        have zl3 := blk_lt LB
        obtain ⟨u0, u1⟩ := blk_2 FB
        go_wp2_with fail
        clear u0 u1 FB zf zl zl3 zt
        rw [rounds_succ]
        obtain ⟨l0, l1⟩ := blk_2 LB
        have zl := blk_lt LB
        have zr := blk_lt RB
        obtain ⟨q0, q1, qf0, qf1⟩ := blkF RB
        have R2 := setF2 RB (u0 := .int .i64 f2.1) (u1 := .int .i64 f2.2)
        obtain ⟨r0, r1⟩ := blk_2 R2
        have HB : Hid _ := H
        have e1 : Hid (mnA f0 f1 f2 f3 = f2) := by change _ = _; unfold mnA; rw [m1, m2, m3]
        clear R2 RB LB TH H m1 m2 m3
        go_wp2_with fail
        exact bodyPost_ret (v := .agg #[.int .i64 f2.1, .int .i64 f2.2]) (by simp [results, Tryz.results70, go_sem, r0, r1]) rfl ⟨by rw [e1.out], by repeat (first | with_reducible exact HB.out | with_reducible refine bw_set ?_ (by dsimp only; omega) _)⟩
    · have m2 : mn f0 f2 = f0 := if_neg c2
      have g2 := cmpI_ge _ _ c2
      generalize hx2 : cmpI (f2.1 * f0.2) (f0.1 * f2.2) = x2 at g2
      have HX2 : Hid (cmpI (f2.1 * f0.2) (f0.1 * f2.2) = x2) := hx2
      have p2 : 0 ≤ x2 := by omega
      clear hx2 g2
      clear c2
      go_wp2_with fail
      refine (fracCmp_both f2.1 f2.2 f0.1 f0.2 ad _ (hs2.below (bw_alloc (bw_refl _) _)) o2 o0).mono ?_
      rw [HX2.out]
      rintro e w2 ⟨rfl, K⟩
      have FB := keep K (heap_new _ _)
      replace LB := keep K ((heap_old _ _ (blk_lt LB)).trans LB)
      replace RB := keep K ((heap_old _ _ (blk_lt RB)).trans RB)
      replace TH := keep K ((heap_old _ _ (blk_lt TH)).trans TH)
      replace H := bw_trans (bw_alloc H _) K
      clear t0 t1 t2 t3 t4 t5 l0 l1 K hs2
      have zf := blk_lt FB
      have zl2 := blk_lt LB
      obtain ⟨u0, u1⟩ := blk_2 FB
      go_wp2_with fail
      clear u0 u1 FB zf zl zl2 zt
      rw [rounds_succ]
      obtain ⟨t0, t1, t2, t3, t4, t5⟩ := blk_6 TH
      obtain ⟨l0, l1⟩ := blk_2 LB
      have zl := blk_lt LB
      have zt := blk_lt TH
      have hs3 := h0.below H
      by_cases c3 : f3.1 * f0.2 < f0.1 * f3.2
      · have m3 : mn f0 f3 = f3 := if_pos c3
        have e3 := cmpI_lt _ _ c3
        clear c3
        go_wp2_with fail
        refine (fracCmp_both f3.1 f3.2 f0.1 f0.2 ad _ (hs3.below (bw_alloc (bw_refl _) _)) o3 o0).mono ?_
        rw [e3]
        rintro e w3 ⟨rfl, K⟩
        have FB := keep K (heap_new _ _)
        replace LB := keep K ((heap_old _ _ (blk_lt LB)).trans LB)
        replace RB := keep K ((heap_old _ _ (blk_lt RB)).trans RB)
        replace TH := keep K ((heap_old _ _ (blk_lt TH)).trans TH)
        replace H := bw_trans (bw_alloc H _) K
        clear t0 t1 t2 t3 t4 t5 l0 l1 K hs3
        have zf := blk_lt FB
        have zl3 := blk_lt LB
        obtain ⟨u0, u1⟩ := blk_2 FB
        obtain ⟨q0, q1, qf0, qf1⟩ := blkF LB
        go_wp2_with fail
        replace LB := setF2 LB (u0 := .int .i64 f3.1) (u1 := .int .i64 f3.2)
        replace RB := setO2 RB (b := w.heap.size + 2) (i := 0) (j := 1) (v := .int .i64 f3.1) (u := .int .i64 f3.2) (by omega)
        replace TH := setO2 TH (b := w.heap.size + 2) (i := 0) (j := 1) (v := .int .i64 f3.1) (u := .int .i64 f3.2) (by omega)
        replace H := bw_set (bw_set H (p := ⟨w.heap.size + 2, 0, none⟩) (by dsimp only; omega) (.int .i64 f3.1)) (p := ⟨w.heap.size + 2, 1, none⟩) (by dsimp only; omega) (.int .i64 f3.2)
        clear q0 q1 qf0 qf1 e3
        generalize ((w3.setCell ⟨w.heap.size + 2, 0, none⟩ (.int .i64 f3.1)).setCell ⟨w.heap.size + 2, 1, none⟩ (.int .i64 f3.2)) = V3 at LB RB TH H ⊢
        clear u0 u1 FB zf zl zl3 zt
        rw [rounds_succ]
        obtain ⟨l0, l1⟩ := blk_2 LB
        have zl := blk_lt LB
        have zr := blk_lt RB
        obtain ⟨q0, q1, qf0, qf1⟩ := blkF RB
        have R2 := setF2 RB (u0 := .int .i64 f3.1) (u1 := .int .i64 f3.2)
        obtain ⟨r0, r1⟩ := blk_2 R2
        have HB : Hid _ := H
        have e1 : Hid (mnA f0 f1 f2 f3 = f3) := by change _ = _; unfold mnA; rw [m1, m2, m3]
        clear R2 RB LB TH H m1 m2 m3
        go_wp2_with fail
        exact bodyPost_ret (v := .agg #[.int .i64 f3.1, .int .i64 f3.2]) (by simp [results, Tryz.results70, go_sem, r0, r1]) rfl ⟨by rw [e1.out], by repeat (first | with_reducible exact HB.out | with_reducible refine bw_set ?_ (by dsimp only; omega) _)⟩
      · have m3 : mn f0 f3 = f0 := if_neg c3
        have g3 := cmpI_ge _ _ c3
        generalize hx3 : cmpI (f3.1 * f0.2) (f0.1 * f3.2) = x3 at g3
        have HX3 : Hid (cmpI (f3.1 * f0.2) (f0.1 * f3.2) = x3) := hx3
        have p3 : 0 ≤ x3 := by omega
        clear hx3 g3
        clear c3
        go_wp2_with fail
        refine (fracCmp_both f3.1 f3.2 f0.1 f0.2 ad _ (hs3.below (bw_alloc (bw_refl _) _)) o3 o0).mono ?_
        rw [HX3.out]
        rintro e w3 ⟨rfl, K⟩
        have FB := keep K (heap_new _ _)
        replace LB := keep K ((heap_old _ _ (blk_lt LB)).trans LB)
        replace RB := keep K ((heap_old _ _ (blk_lt RB)).trans RB)
        replace TH := keep K ((heap_old _ _ (blk_lt TH)).trans TH)
        replace H := bw_trans (bw_alloc H _) K
        clear t0 t1 t2 t3 t4 t5 l0 l1 K hs3
        have zf := blk_lt FB
        have zl3 := blk_lt LB
        obtain ⟨u0, u1⟩ := blk_2 FB
        go_wp2_with fail
        clear u0 u1 FB zf zl zl3 zt
        rw [rounds_succ]
        obtain ⟨l0, l1⟩ := blk_2 LB
        have zl := blk_lt LB
        have zr := blk_lt RB
        obtain ⟨q0, q1, qf0, qf1⟩ := blkF RB
        have R2 := setF2 RB (u0 := .int .i64 f0.1) (u1 := .int .i64 f0.2)
        obtain ⟨r0, r1⟩ := blk_2 R2
        have HB : Hid _ := H
        have e1 : Hid (mnA f0 f1 f2 f3 = f0) := by change _ = _; unfold mnA; rw [m1, m2, m3]
        clear R2 RB LB TH H m1 m2 m3
        go_wp2_with fail
        exact bodyPost_ret (v := .agg #[.int .i64 f0.1, .int .i64 f0.2]) (by simp [results, Tryz.results70, go_sem, r0, r1]) rfl ⟨by rw [e1.out], by repeat (first | with_reducible exact HB.out | with_reducible refine bw_set ?_ (by dsimp only; omega) _)⟩
end Go.Proofs.YtmdjhoknlplecaaGreatDoor
namespace Go.Proofs.YtmdjhoknlplecaaGreatDoor
open Go.RowKit Go.Sort

/-- How far apart, at whatever arguments. -/
def apartV (ax ay bx b_y cx cy ex ey : Int) : Int × Int := if sgB ax ay bx b_y && sgB cx cy ex ey then apart ax ay bx b_y cx cy ex ey else (0, 0)
theorem apartV_ok {ax ay bx b_y cx cy ex ey : Int} (gs : sgB ax ay bx b_y = true) (gt : sgB cx cy ex ey = true) : apartV ax ay bx b_y cx cy ex ey = apart ax ay bx b_y cx cy ex ey := by unfold apartV; rw [gs, gt]; rfl
set_option maxHeartbeats 1000000 in
theorem segApart_no (ax ay bx b_y cx cy ex ey : Int) (w : World) (h : sgB ax ay bx b_y = false ∨ (sgB ax ay bx b_y = true ∧ sgB cx cy ex ey = false)) :
    Calls Tryz.prog 30 #[.agg #[.int .i64 ax, .int .i64 ay, .int .i64 bx, .int .i64 b_y], .agg #[.int .i64 cx, .int .i64 cy, .int .i64 ex, .int .i64 ey]] w fun e w' => e = .returned (.agg #[.int .i64 0, .int .i64 0]) ∧ Below w.heap.size w w' := by
  rcases h with gs | ⟨gs, gt⟩
  · go_enter Tryz.func30, Tryz.ntmps30
    go_wp2_with fail
    refine (segOk_any _ _ _ _ _).mono ?_
    rw [gs]
    rintro e w1 ⟨rfl, J⟩
    obtain ⟨hc, hf⟩ := bcell J
    have HB : Hid (Below w.heap.size w w1) := bw_trans (by repeat (first | exact bw_refl _ | assumption | apply bw_drewN | apply bw_drew | apply bw_alloc | refine bw_set ?_ (by simp) _)) J
    have hz := J.size
    simp at hz
    have hz' : w.heap.size + 2 < w1.heap.size := by omega
    clear hz J
    go_wp2_with fail
    exact bodyPost_ret (v := .agg #[.int .i64 0, .int .i64 0]) (by simp [results, Tryz.results30, go_sem, hc]) rfl ⟨rfl, by repeat (first | with_reducible exact HB.out | with_reducible refine bw_set ?_ (by dsimp only; omega) _)⟩
  · go_enter Tryz.func30, Tryz.ntmps30
    go_wp2_with fail
    refine (segOk_any _ _ _ _ _).mono ?_
    rw [gs]
    rintro e w1 ⟨rfl, J⟩
    obtain ⟨hc, hf⟩ := bcell J
    go_wp2_with fail
    refine (segOk_any _ _ _ _ _).mono ?_
    rw [gt]
    rintro e w1 ⟨rfl, J2⟩
    replace J := bw_trans J J2
    clear hc hf J2
    obtain ⟨hc, hf⟩ := bcell J
    have HB : Hid (Below w.heap.size w w1) := bw_trans (by repeat (first | exact bw_refl _ | assumption | apply bw_drewN | apply bw_drew | apply bw_alloc | refine bw_set ?_ (by simp) _)) J
    have hz := J.size
    simp at hz
    have hz' : w.heap.size + 2 < w1.heap.size := by omega
    clear hz J
    go_wp2_with fail
    exact bodyPost_ret (v := .agg #[.int .i64 0, .int .i64 0]) (by simp [results, Tryz.results30, go_sem, hc]) rfl ⟨rfl, by repeat (first | with_reducible exact HB.out | with_reducible refine bw_set ?_ (by dsimp only; omega) _)⟩
set_option maxHeartbeats 1000000 in
theorem segApart_meet (ax ay bx b_y cx cy ex ey : Int) (ad : Addr) (w : World) (h0 : Sent ad w) (gs : sgB ax ay bx b_y = true) (gt : sgB cx cy ex ey = true) (hm : meetC ax ay bx b_y cx cy ex ey = true) :
    Calls Tryz.prog 30 #[.agg #[.int .i64 ax, .int .i64 ay, .int .i64 bx, .int .i64 b_y], .agg #[.int .i64 cx, .int .i64 cy, .int .i64 ex, .int .i64 ey]] w fun e w' => e = .returned (.agg #[.int .i64 0, .int .i64 1]) ∧ Below w.heap.size w w' := by
  have b0 : Below w.heap.size w (((w.alloc (.cells #[.int .i64 ax, .int .i64 ay, .int .i64 bx, .int .i64 b_y] 62)).alloc (.cells #[.int .i64 cx, .int .i64 cy, .int .i64 ex, .int .i64 ey] 62)).alloc (.cells #[.int .i64 0, .int .i64 0] 47)) := (by repeat (first | exact bw_refl _ | assumption | apply bw_drewN | apply bw_drew | apply bw_alloc | refine bw_set ?_ (by simp) _))
  go_enter Tryz.func30, Tryz.ntmps30
  go_wp2_with fail
  refine (segOk_any _ _ _ _ _).mono ?_
  rw [gs]
  rintro e w1 ⟨rfl, J⟩
  obtain ⟨hc, hf⟩ := bcell J
  go_wp2_with fail
  refine (segOk_any _ _ _ _ _).mono ?_
  rw [gt]
  rintro e w1 ⟨rfl, J2⟩
  replace J := bw_trans J J2
  clear hc hf J2
  obtain ⟨hc, hf⟩ := bcell J
  go_wp2_with fail
  refine (meet_ok _ _ _ _ _ _ _ _ _ gs gt).mono ?_
  rw [hm]
  rintro e w1 ⟨rfl, J2⟩
  replace J := bw_trans J J2
  clear hc hf J2
  obtain ⟨hc, hf⟩ := bcell J
  go_wp2_with fail
  refine (grid_one 0 (by decide) (by decide) ad _ (h0.below (bw_trans b0 J))).mono ?_
  rintro e w1 ⟨rfl, J2⟩
  replace J := bw_trans J J2
  clear hc hf J2
  obtain ⟨hc, hf⟩ := bcell J
  have HB : Hid (Below w.heap.size w w1) := bw_trans (by repeat (first | exact bw_refl _ | assumption | apply bw_drewN | apply bw_drew | apply bw_alloc | refine bw_set ?_ (by simp) _)) J
  have hz := J.size
  simp at hz
  have hz' : w.heap.size + 2 < w1.heap.size := by omega
  clear hz J
  go_wp2_with fail
  exact bodyPost_ret (v := .agg #[.int .i64 0, .int .i64 1]) (by simp [results, Tryz.results30, go_sem, hc]) rfl ⟨rfl, by repeat (first | with_reducible exact HB.out | with_reducible refine bw_set ?_ (by dsimp only; omega) _)⟩
set_option maxHeartbeats 4000000 in
theorem segApart_far (ax ay bx b_y cx cy ex ey : Int) (ad : Addr) (w : World) (h0 : Sent ad w) (gs : sgB ax ay bx b_y = true) (gt : sgB cx cy ex ey = true) (hm : meetC ax ay bx b_y cx cy ex ey = false) :
    Calls Tryz.prog 30 #[.agg #[.int .i64 ax, .int .i64 ay, .int .i64 bx, .int .i64 b_y], .agg #[.int .i64 cx, .int .i64 cy, .int .i64 ex, .int .i64 ey]] w fun e w' => e = .returned (.agg #[.int .i64 (mnA (far ax ay bx b_y cx cy) (far ax ay bx b_y ex ey) (far cx cy ex ey ax ay) (far cx cy ex ey bx b_y)).1, .int .i64 (mnA (far ax ay bx b_y cx cy) (far ax ay bx b_y ex ey) (far cx cy ex ey ax ay) (far cx cy ex ey bx b_y)).2]) ∧ Below w.heap.size w w' := by
  obtain ⟨pa, pb, _⟩ := sg_parts gs
  obtain ⟨pc, pd, _⟩ := sg_parts gt
  obtain ⟨o1, o2, o3, o4⟩ := four_ok gs gt
  obtain ⟨W, hW, BW, SB, TB, RB⟩ := boxes3 w (.cells #[.int .i64 ax, .int .i64 ay, .int .i64 bx, .int .i64 b_y] 62) (.cells #[.int .i64 cx, .int .i64 cy, .int .i64 ex, .int .i64 ey] 62) (.cells #[.int .i64 0, .int .i64 0] 47)
  have FA0 : Hid (∀ w, Sent ad w → Calls Tryz.prog 71 #[.agg #[.int .i64 ax, .int .i64 ay, .int .i64 bx, .int .i64 b_y], .agg #[.int .i64 cx, .int .i64 cy]] w fun e w' => e = .returned (.agg #[.int .i64 (far ax ay bx b_y cx cy).1, .int .i64 (far ax ay bx b_y cx cy).2]) ∧ Below w.heap.size w w') := fun w hs => segFar_ok ax ay bx b_y cx cy ad w hs gs pc
  have FA1 : Hid (∀ w, Sent ad w → Calls Tryz.prog 71 #[.agg #[.int .i64 ax, .int .i64 ay, .int .i64 bx, .int .i64 b_y], .agg #[.int .i64 ex, .int .i64 ey]] w fun e w' => e = .returned (.agg #[.int .i64 (far ax ay bx b_y ex ey).1, .int .i64 (far ax ay bx b_y ex ey).2]) ∧ Below w.heap.size w w') := fun w hs => segFar_ok ax ay bx b_y ex ey ad w hs gs pd
  have FA2 : Hid (∀ w, Sent ad w → Calls Tryz.prog 71 #[.agg #[.int .i64 cx, .int .i64 cy, .int .i64 ex, .int .i64 ey], .agg #[.int .i64 ax, .int .i64 ay]] w fun e w' => e = .returned (.agg #[.int .i64 (far cx cy ex ey ax ay).1, .int .i64 (far cx cy ex ey ax ay).2]) ∧ Below w.heap.size w w') := fun w hs => segFar_ok cx cy ex ey ax ay ad w hs gt pa
  have FA3 : Hid (∀ w, Sent ad w → Calls Tryz.prog 71 #[.agg #[.int .i64 cx, .int .i64 cy, .int .i64 ex, .int .i64 ey], .agg #[.int .i64 bx, .int .i64 b_y]] w fun e w' => e = .returned (.agg #[.int .i64 (far cx cy ex ey bx b_y).1, .int .i64 (far cx cy ex ey bx b_y).2]) ∧ Below w.heap.size w w') := fun w hs => segFar_ok cx cy ex ey bx b_y ad w hs gt pb
  go_enter Tryz.func30, Tryz.ntmps30
  go_wp2_with fail
  refine (segOk_any _ _ _ _ _).mono ?_
  rw [gs]
  rintro e w1 ⟨rfl, J⟩
  obtain ⟨hc, hf⟩ := bcell J
  go_wp2_with fail
  refine (segOk_any _ _ _ _ _).mono ?_
  rw [gt]
  rintro e w1 ⟨rfl, J2⟩
  replace J := bw_trans J J2
  clear hc hf J2
  obtain ⟨hc, hf⟩ := bcell J
  go_wp2_with fail
  refine (meet_ok _ _ _ _ _ _ _ _ _ gs gt).mono ?_
  rw [hm]
  rintro e w1 ⟨rfl, J2⟩
  replace J := bw_trans J J2
  clear hc hf J2
  obtain ⟨hc, hf⟩ := bcell J
  go_upto_region 5 with fail
  rw [← hW] at J
  replace SB := keep J SB
  replace TB := keep J TB
  replace RB := keep J RB
  have zr := blk_lt RB
  have H := (bw_trans BW J).drew
  have hS0 : (fun w' => w'.cell? ⟨w.heap.size, 0, none⟩ = some (.int .i64 ax) ∧ w'.cell? ⟨w.heap.size, 1, none⟩ = some (.int .i64 ay) ∧ w'.cell? ⟨w.heap.size, 2, none⟩ = some (.int .i64 bx) ∧ w'.cell? ⟨w.heap.size, 3, none⟩ = some (.int .i64 b_y) ∧ w'.cell? ⟨w.heap.size + 1, 0, none⟩ = some (.int .i64 cx) ∧ w'.cell? ⟨w.heap.size + 1, 1, none⟩ = some (.int .i64 cy) ∧ w'.cell? ⟨w.heap.size + 1, 2, none⟩ = some (.int .i64 ex) ∧ w'.cell? ⟨w.heap.size + 1, 3, none⟩ = some (.int .i64 ey)) w1 := by
    obtain ⟨s0, s1, s2, s3⟩ := blk_4 SB
    obtain ⟨t0, t1, t2, t3⟩ := blk_4 TB
    exact ⟨s0, s1, s2, s3, t0, t1, t2, t3⟩
  clear hW hc hf J SB TB BW
  replace RB : w1.drew.heap[w.heap.size + 2]? = _ := RB
  have HS : Sent ad w1.drew := h0.below H
  clear h0 gs gt hm pa pb pc pd
  go_region_held3 (fun w' => w'.cell? ⟨w.heap.size, 0, none⟩ = some (.int .i64 ax) ∧ w'.cell? ⟨w.heap.size, 1, none⟩ = some (.int .i64 ay) ∧ w'.cell? ⟨w.heap.size, 2, none⟩ = some (.int .i64 bx) ∧ w'.cell? ⟨w.heap.size, 3, none⟩ = some (.int .i64 b_y) ∧ w'.cell? ⟨w.heap.size + 1, 0, none⟩ = some (.int .i64 cx) ∧ w'.cell? ⟨w.heap.size + 1, 1, none⟩ = some (.int .i64 cy) ∧ w'.cell? ⟨w.heap.size + 1, 2, none⟩ = some (.int .i64 ex) ∧ w'.cell? ⟨w.heap.size + 1, 3, none⟩ = some (.int .i64 ey)) (first | with_reducible exact cB8 K (by assumption) | with_reducible exact cA8 (by assumption) | exact hS0 | exact cS8 (by assumption) (by dsimp only; omega) (by dsimp only; omega) (by dsimp only; omega) (by dsimp only; omega) (by dsimp only; omega) (by dsimp only; omega) (by dsimp only; omega) (by dsimp only; omega)) (first | (go_at_call 71; refine (FA0.out _ HS).mono ?_; clear FA0; rintro e v0 ⟨rfl, K⟩; replace HS := HS.below K; replace H := bw_trans H K; replace RB := keep K RB) | (go_at_call 71; refine (FA1.out _ HS).mono ?_; clear FA1; rintro e v1 ⟨rfl, K⟩; replace HS := HS.below K; replace H := bw_trans H K; replace RB := keep K RB) | (go_at_call 71; refine (FA2.out _ HS).mono ?_; clear FA2; rintro e v2 ⟨rfl, K⟩; replace HS := HS.below K; replace H := bw_trans H K; replace RB := keep K RB) | (go_at_call 71; refine (FA3.out _ HS).mono ?_; clear FA3; rintro e v3 ⟨rfl, K⟩; replace HS := HS.below K; replace H := bw_trans H K; replace RB := keep K RB) | (go_at_call 70; refine (least_ok (far ax ay bx b_y cx cy) (far ax ay bx b_y ex ey) (far cx cy ex ey ax ay) (far cx cy ex ey bx b_y) _ ad _ ?_ o1 o2 o3 o4 ?_).mono ?_; exact HS.below (bw_alloc (bw_refl _) _); exact heap_new _ _; rintro e v4 ⟨rfl, K⟩; replace RB := keep K ((heap_old _ _ (blk_lt RB)).trans RB); replace H := bw_trans (bw_alloc H _) K; obtain ⟨q0, q1, qf0, qf1⟩ := blkF RB))
  have HB : Hid _ := H
  have zz := blk_lt RB
  have R2 := setF2 RB (u0 := .int .i64 (mnA (far ax ay bx b_y cx cy) (far ax ay bx b_y ex ey) (far cx cy ex ey ax ay) (far cx cy ex ey bx b_y)).1) (u1 := .int .i64 (mnA (far ax ay bx b_y cx cy) (far ax ay bx b_y ex ey) (far cx cy ex ey ax ay) (far cx cy ex ey bx b_y)).2)
  obtain ⟨r0, r1⟩ := blk_2 R2
  clear H RB R2
  go_wp2_with fail
  exact bodyPost_ret (v := .agg #[.int .i64 (mnA (far ax ay bx b_y cx cy) (far ax ay bx b_y ex ey) (far cx cy ex ey ax ay) (far cx cy ex ey bx b_y)).1, .int .i64 (mnA (far ax ay bx b_y cx cy) (far ax ay bx b_y ex ey) (far cx cy ex ey ax ay) (far cx cy ex ey bx b_y)).2]) (by simp [results, Tryz.results30, go_sem, r0, r1]) rfl ⟨rfl, by repeat (first | with_reducible exact HB.out | with_reducible refine bw_set ?_ (by dsimp only; omega) _)⟩
theorem segApart_any (ax ay bx b_y cx cy ex ey : Int) (ad : Addr) (w : World) (h0 : Sent ad w) :
    Calls Tryz.prog 30 #[.agg #[.int .i64 ax, .int .i64 ay, .int .i64 bx, .int .i64 b_y], .agg #[.int .i64 cx, .int .i64 cy, .int .i64 ex, .int .i64 ey]] w fun e w' => e = .returned (.agg #[.int .i64 (apartV ax ay bx b_y cx cy ex ey).1, .int .i64 (apartV ax ay bx b_y cx cy ex ey).2]) ∧ Below w.heap.size w w' := by
  cases gs : sgB ax ay bx b_y
  · have e : apartV ax ay bx b_y cx cy ex ey = (0, 0) := by unfold apartV; rw [gs]; rfl
    rw [e]; exact segApart_no _ _ _ _ _ _ _ _ w (.inl gs)
  · cases gt : sgB cx cy ex ey
    · have e : apartV ax ay bx b_y cx cy ex ey = (0, 0) := by unfold apartV; rw [gs, gt]; rfl
      rw [e]; exact segApart_no _ _ _ _ _ _ _ _ w (.inr ⟨gs, gt⟩)
    · rw [apartV_ok gs gt]
      unfold apart
      cases hm : meetC ax ay bx b_y cx cy ex ey
      · exact segApart_far _ _ _ _ _ _ _ _ ad w h0 gs gt hm
      · exact segApart_meet _ _ _ _ _ _ _ _ ad w h0 gs gt hm
theorem segApart_ok (ax ay bx b_y cx cy ex ey : Int) (ad : Addr) (w : World) (h0 : Sent ad w) (gs : sgB ax ay bx b_y = true) (gt : sgB cx cy ex ey = true) :
    Calls Tryz.prog 30 #[.agg #[.int .i64 ax, .int .i64 ay, .int .i64 bx, .int .i64 b_y], .agg #[.int .i64 cx, .int .i64 cy, .int .i64 ex, .int .i64 ey]] w fun e w' => e = .returned (.agg #[.int .i64 (apart ax ay bx b_y cx cy ex ey).1, .int .i64 (apart ax ay bx b_y cx cy ex ey).2]) ∧ Below w.heap.size w w' := by
  rw [← apartV_ok gs gt]; exact segApart_any _ _ _ _ _ _ _ _ ad w h0
end Go.Proofs.YtmdjhoknlplecaaGreatDoor
