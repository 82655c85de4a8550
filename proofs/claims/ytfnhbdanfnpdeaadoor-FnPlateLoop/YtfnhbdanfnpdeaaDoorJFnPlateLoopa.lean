/-
  OUR OWN TEXT. The law FnPlateLoop, for every input: the call returns true, and each argument reads as it did. Texts of ours, joined, so that the claim keeps to its number of files. Conditions: none but the row's own.
-/
import Derived.Test.YtfnhbdanfnpdeaaDoorDrawPlate
import Derived.Test.YtfnhbdanfnpdeaaDoorRoundQ
import Derived.Deep.RegionHeld3
import Derived.Test.YtfnhbdanfnpdeaaDoorDrawLoop
import Derived.Test.YtfnhbdanfnpdeaaDoorShelf
import Derived.Test.YtfnhbdanfnpdeaaDoorBw
import Derived.Lib.QuietBelow
import Derived.Lib.ItoaLen
import Derived.WalkLawsBesides
import Derived.WalkSmall
import Derived.Test.YtfnhbdanfnpdeaaDoorLoopM
import Derived.Test.YtfnhbdanfnpdeaaDoorBoxes
import Derived.Lib.Join
import Derived.Test.YtfnhbdanfnpdeaaDoorEdgeS
import Derived.Test.YtfnhbdanfnpdeaaDoorToPts
import Derived.OwnWalk
import Derived.Deep.AppendLies
import Derived.Test.YtfnhbdanfnpdeaaDoorEqPts
import Derived.Test.YtfnhbdanfnpdeaaDoorOk
import Derived.Test.YtfnhbdanfnpdeaaDoorSOk
import Derived.Test.YtfnhbdanfnpdeaaDoorPlateM
import Derived.Test.YtfnhbdanfnpdeaaDoorBoard
import Derived.Test.YtfnhbdanfnpdeaaDoorSPlateOk
import Derived.Shelf.Strings.MapGrows
import Derived.Test.YtfnhbdanfnpdeaaDoorWhere
import Derived.Test.YtfnhbdanfnpdeaaDoorCards
import Derived.Test.YtfnhbdanfnpdeaaDoorTie
import Derived.ProofKit
import Derived.OpenShut
import Derived.ShutString
import Derived.ChangeOld
import Derived.Below
import Derived.LaidMore
import Derived.MakeChecks
import Derived.Stop.Joined
import Derived.Stop.LaidErr
import Derived.Lib.LaidTab
import Derived.Lib.SmallJoins
namespace Go.Proofs.YtfnhbdanfnpdeaaDoor
open Go.RowKit

theorem lies_set0 {b : Nat} {x y z : Value} {t : TypeId} {W : World} (h : Lies b #[x, y] t W) : Lies b #[z, y] t (W.setCell ⟨b, 0, none⟩ z) := by
  unfold Lies at h ⊢
  exact setCell_row h z
theorem blk_ne_own {W : World} {base g c n gh ch m : Nat} {l : List P2} {xs : List Value} (h : PtBlk W g c l n) (ho : W.ownsRow base 25 1 (.slice (some ⟨gh, 0, none⟩) m ch) m xs) : g ≠ gh := by
  rintro rfl
  obtain ⟨cur, hc, _⟩ := h
  rcases ho.2 with ⟨e, _⟩ | ⟨g', c', cur', e, hb, hg, _⟩
  · cases e
  · cases e; rw [hc] at hg; simp at hg
theorem LoopT.ok.lt {base : Nat} {W : World} {t : LoopT} (h : t.ok base W) : t.g < W.heap.size := by obtain ⟨_, _, _, _, _, _, h7⟩ := h; exact h7.lt
/-- What a drawn plate is. -/
def DrawnP (base r : Nat) (a : Option Addr) (len cap k : Nat) (w : World) (e : Ending) (w' : World) : Prop :=
  ∃ (o : LoopT) (hv : Value) (hs : List LoopT) (k' : Nat), e = .returned (.agg #[o.v, hv]) ∧ PlD base w' o hv hs ∧ (hs.length ≤ 3 ∧ Seat hv) ∧ k' ≤ k ∧ Rd w' r k' a len cap ∧ Only r w w'
set_option maxRecDepth 100000 in
set_option maxHeartbeats 8000000 in
theorem plate_any (k : Nat) (a : Option Addr) (len cap r : Nat) (w : World) (hk : k ≤ 600000) (R : Rd w r k a len cap) :
    Calls Tryd.prog 44 #[.pointer (some ⟨r, 0, none⟩)] w (DrawnP w.heap.size r a len cap (k + 200) w) := by
  obtain ⟨i0, hi0, hz0, hz1, hz2⟩ := info_parts Tryd.infoPts
  obtain ⟨j0, hj0, jz0, jz1, jz2⟩ := info_parts Tryd.infoPt
  have hlt := R.lt
  have P := (Only.refl r w).alloc (.cells #[.slice none 0 0, .slice none 0 0] 40)
  have Z : Lies w.heap.size #[.slice none 0 0, .slice none 0 0] 40 (w.alloc (.cells #[.slice none 0 0, .slice none 0 0] 40)) := Lies.new w _ _
  replace R := R.alloc (.cells #[.slice none 0 0, .slice none 0 0] 40)
  go_enter Tryd.func44, Tryd.ntmps44
  go_wp2_with fail
  refine (good_any k a len cap r _ (by omega) R).mono ?_
  clear R
  rintro e w1 ⟨⟨g, n, c, l⟩, hv, hs, k1, he, hD, ⟨hs2, hn7, hst⟩, hk1, R, O⟩
  obtain rfl : e = .returned (.agg #[.slice (some ⟨g, 0, none⟩) n c, hv]) := he
  obtain ⟨gh, ch, rfl⟩ : ∃ gh ch, hv = .slice (some ⟨gh, 0, none⟩) hs.length ch := own_seat hD.2.2.1 hst
  replace hD := hD.mono (base' := w.heap.size + 1) (by simp)
  replace P := P.trans O
  replace Z : Lies w.heap.size #[.slice none 0 0, .slice none 0 0] 40 w1 := keepO O Z (by omega)
  clear O
  have z1 := Z.lt
  have Bq : Below w1.heap.size w1 (w1.alloc (.cells #[.slice (some ⟨g, 0, none⟩) n c, .slice (some ⟨gh, 0, none⟩) hs.length ch] 40)) := (by repeat (first | exact bw_refl _ | assumption | apply bw_drewN | apply bw_drew | apply bw_alloc | refine bw_set ?_ (by simp) _))
  have Lp : Lies w1.heap.size #[.slice (some ⟨g, 0, none⟩) n c, .slice (some ⟨gh, 0, none⟩) hs.length ch] 40 (w1.alloc (.cells #[.slice (some ⟨g, 0, none⟩) n c, .slice (some ⟨gh, 0, none⟩) hs.length ch] 40)) := Lies.new w1 _ _
  have hgs : ∀ t ∈ hs, t.g < w1.heap.size := fun t ht => by obtain ⟨_, _, _, _, _, _, h7⟩ := hD.2.2.2 t ht; exact h7.lt
  have hgw : g < w1.heap.size := by obtain ⟨_, _, _, _, _, _, h7⟩ := hD.1; exact h7.lt
  have hghw : gh < w1.heap.size := (hD.2.2.1.lt gh rfl).2
  have hghb : w.heap.size + 1 ≤ gh := (hD.2.2.1.lt gh rfl).1
  replace R := R.below Bq
  replace P := P.trans (Only.of_below Bq)
  replace Z := Z.below Bq
  replace hD := hD.below Bq
  clear Bq
  go_wp2_with fail
  refine (pick_rd 24 k1 a len cap r _ (by omega) (by omega) R).mono ?_
  clear R
  rintro e w2 ⟨q, rfl, qa, qb, R, O⟩
  replace P := P.trans O
  replace Z : Lies w.heap.size #[.slice none 0 0, .slice none 0 0] 40 w2 := keepO O Z (by omega)
  replace Lp : Lies w1.heap.size #[.slice (some ⟨g, 0, none⟩) n c, .slice (some ⟨gh, 0, none⟩) hs.length ch] 40 w2 := keepO O Lp (by omega)
  replace hD := hD.only O (by omega)
  clear O
  obtain ⟨d0, d1, f0, f1⟩ := lies2 Lp
  obtain ⟨y0, y1, yf0, yf1⟩ := lies2 Z
  have z2 := Lp.lt
  have hmx : Tryd.prog.follows .mixedOrders = true := by kernel_rfl
  have hmax : hs.length + 1 ≤ maxLen := by simp [maxLen]; omega
  have hq : q = 0 ∨ q = 1 ∨ q = 2 ∨ (q ≠ 0 ∧ q ≠ 1 ∧ q ≠ 2) := by omega
  rcases hq with rfl | rfl | rfl | ⟨q0, q1, q2⟩
  · go_wp2_with fail
    refine (loop_any (k1 + 1) a len cap r _ (by omega) R).mono ?_
    clear R
    rintro e w3 ⟨g3, n3, c3, l3, k3, rfl, h3, h7, hl3, hc3, hm3, hb3, hB3, hk3, R, O⟩
    replace P := P.trans O
    replace Z : Lies w.heap.size #[.slice none 0 0, .slice none 0 0] 40 w3 := keepO O Z (by omega)
    replace Lp : Lies w1.heap.size #[.slice (some ⟨g, 0, none⟩) n c, .slice (some ⟨gh, 0, none⟩) hs.length ch] 40 w3 := keepO O Lp (by omega)
    replace hD := hD.only O (by omega)
    clear O d0 d1 f0 f1 y0 y1 yf0 yf1
    obtain ⟨d0, d1, f0, f1⟩ := lies2 Lp
    obtain ⟨y0, y1, yf0, yf1⟩ := lies2 Z
    have O4 : Only w1.heap.size w3 (w3.setCell ⟨w1.heap.size, 0, none⟩ (.slice (some ⟨g3, 0, none⟩) n3 c3)) := (Only.refl w1.heap.size w3).set (.inl rfl) _
    have hD4 : PlD (w.heap.size + 1) (w3.setCell ⟨w1.heap.size, 0, none⟩ (.slice (some ⟨g3, 0, none⟩) n3 c3)) ⟨g3, n3, c3, l3⟩ (.slice (some ⟨gh, 0, none⟩) hs.length ch) hs :=
      ⟨LoopT.ok.only' ⟨h3, by show n3 ≤ 8; omega, hl3, hc3, hm3, by show w.heap.size + 1 ≤ g3; omega, hB3⟩ O4 (by show g3 ≠ _; omega), hD.2.1, own_only' hD.2.2.1 O4 (fun e => by have e' : gh = w1.heap.size := Option.some.inj e; omega), fun t ht => (hD.2.2.2 t ht).only' O4 (Nat.ne_of_lt (hgs t ht))⟩
    have R4 := R.set (p := ⟨w1.heap.size, 0, none⟩) (by show r < w1.heap.size; omega) (.slice (some ⟨g3, 0, none⟩) n3 c3)
    have P4 := P.set (p := ⟨w1.heap.size, 0, none⟩) (.inr (by show w.heap.size ≤ w1.heap.size; omega)) (.slice (some ⟨g3, 0, none⟩) n3 c3)
    have Z4 : Lies w.heap.size #[.slice none 0 0, .slice none 0 0] 40 (w3.setCell ⟨w1.heap.size, 0, none⟩ (.slice (some ⟨g3, 0, none⟩) n3 c3)) := set_oth Z (by omega)
    have Z5 := setB2 (u0 := .slice (some ⟨g3, 0, none⟩) n3 c3) (u1 := .slice (some ⟨gh, 0, none⟩) hs.length ch) Z4
    obtain ⟨v0, v1, _, _⟩ := lies2 Z5
    go_wp2_with fail
    refine bodyPost_ret (v := .agg #[.slice (some ⟨g3, 0, none⟩) n3 c3, .slice (some ⟨gh, 0, none⟩) hs.length ch]) (by simp [results, Tryd.results44, go_sem, v0, v1]) rfl ?_
    generalize (w3.setCell ⟨w1.heap.size, 0, none⟩ (.slice (some ⟨g3, 0, none⟩) n3 c3)) = x4 at *
    have hD5 := (hD4.only ((Only.refl w.heap.size x4).set (p := ⟨w.heap.size, 0, none⟩) (.inl rfl) (.slice (some ⟨g3, 0, none⟩) n3 c3)) (by omega)).only ((Only.refl w.heap.size _).set (p := ⟨w.heap.size, 1, none⟩) (.inl rfl) (.slice (some ⟨gh, 0, none⟩) hs.length ch)) (by omega)
    exact ⟨⟨g3, n3, c3, l3⟩, _, hs, k3, rfl, hD5.mono (by omega), ⟨by omega, ⟨_, _, _, rfl⟩⟩, by omega, (R4.set (by show r < w.heap.size; omega) _).set (by show r < w.heap.size; omega) _, (P4.set (.inr (by show w.heap.size ≤ w.heap.size; omega)) _).set (.inr (by show w.heap.size ≤ w.heap.size; omega)) _⟩
  · have hX := loop_any (k1 + 1) a len cap r w2.drew (by omega) R.drew
    have PD := P.drew
    have ZD : Lies w.heap.size #[.slice none 0 0, .slice none 0 0] 40 w2.drew := Z
    have LpD : Lies w1.heap.size #[.slice (some ⟨g, 0, none⟩) n c, .slice (some ⟨gh, 0, none⟩) hs.length ch] 40 w2.drew := Lp
    have hDD : PlD (w.heap.size + 1) w2.drew ⟨g, n, c, l⟩ (.slice (some ⟨gh, 0, none⟩) hs.length ch) hs := hD.below (bw_drew (bw_refl _))
    go_wp2_with fail
    refine wp_region_held (S := fun _ => True) hmx ?_
    refine wpAnyH_take (i := 0) (v := .pointer (some ⟨w1.heap.size, 1, none⟩)) rfl (by kernel_rfl) (by kernel_rfl) (by kernel_rfl) (fun _ _ _ h => h) (Or.inl ⟨by rfl, by intro w' _; go_simp⟩) trivial ?_
    refine wpAnyH_take (i := 2) (v := .pointer (some ⟨r, 0, none⟩)) rfl (by kernel_rfl) (by kernel_rfl) (by kernel_rfl) (fun _ _ _ h => h) (Or.inl ⟨by rfl, by intro w' _; go_simp⟩) trivial ?_
    refine wpAnyH_all (rs := [1, 3]) (by kernel_rfl) (by simp) ?_
    intro i hi
    have hi' : i = 1 ∨ i = 3 := by simpa using hi
    clear hi
    rcases hi' with rfl | rfl
    · skip
      refine YieldsIf.wpOp (S := fun w' => w' = w2.drew) (v := .slice (some ⟨gh, 0, none⟩) hs.length ch) rfl (Or.inl ⟨by rfl, by rintro w' rfl; go_simp⟩) rfl ⟨trivial, ?_⟩
      refine wpAnyH_all (rs := [3]) (by kernel_rfl) (by simp) ?_
      intro i hi
      obtain rfl : i = 3 := by simpa using hi
      refine wpOp_now rfl (by rfl) ?_
      go_simp
      refine hX.mono ?_
      rintro e w3 ⟨g3, n3, c3, l3, k3, rfl, h3, h7, hl3, hc3, hm3, hb3, hB3, hk3, R3, O3⟩
      have P3 := PD.trans O3
      have Z3 : Lies w.heap.size #[.slice none 0 0, .slice none 0 0] 40 w3 := keepO O3 ZD (by omega)
      have Lp3 : Lies w1.heap.size #[.slice (some ⟨g, 0, none⟩) n c, .slice (some ⟨gh, 0, none⟩) hs.length ch] 40 w3 := keepO O3 LpD (by omega)
      have hD3 := hDD.only O3 (by omega)
      obtain ⟨d03, d13, f03, f13⟩ := lies2 Lp3
      have zz3 := Lp3.lt
      have zr3 := R3.lt
      have zg3 := hB3.lt
      have hb3' : w2.heap.size ≤ g3 := hb3
      refine wpAnyH_all (rs := [4]) (by kernel_rfl) (by simp) ?_
      intro i hi
      obtain rfl : i = 4 := by simpa using hi
      refine wpOp_now rfl (by rfl) ?_
      go_simp
      refine wpAnyH_all (rs := [5]) (by kernel_rfl) (by simp) ?_
      intro i hi
      obtain rfl : i = 5 := by simpa using hi
      refine wpOp_now rfl (by rfl) ?_
      refine wp_append_lies _ _ _ _ (by rfl) (w.heap.size + 1) 25 i0 _ 1 24 Tryd.underlying38 hi0 hz0 hz1 hz2 rfl (by omega) _ hs.length _ (by rfl) (hD3.2.2.1.alloc _) ⟨w3.heap.size, 0, none⟩ 1 1 [.slice (some ⟨g3, 0, none⟩) n3 c3] (by rfl) (by rfl) (World.news_of_block (cs := #[.slice (some ⟨g3, 0, none⟩) n3 c3]) (t := 25) (fr := (0, 0)) (heap_alloc_new w3 _)) (by simp [Value.oneCell']) (by omega) hmax (by omega) (by simp; omega) (w3.heap.size + 1) (by simp) ?_
      intro gg cg w5 hown5 hgr5 hat5 hlt5
      refine ⟨trivial, ?_⟩
      simp only [Act.put, List.setIfInBounds_toArray]
      refine wpAnyH_take (i := 6) (v := .pointer (some ⟨w1.heap.size, 1, none⟩)) rfl (by kernel_rfl) (by kernel_rfl) (by kernel_rfl) (fun _ _ _ h => h) (Or.inl ⟨by rfl, by intro w' _; go_simp⟩) trivial ?_
      refine wpAnyH_all (rs := [7]) (by kernel_rfl) (by simp) ?_
      intro i hi
      obtain rfl : i = 7 := by simpa using hi
      have Bq : Below w3.heap.size w3 (w3.alloc (.cells #[.slice (some ⟨g3, 0, none⟩) n3 c3] 25)) := (by repeat (first | exact bw_refl _ | assumption | apply bw_drewN | apply bw_drew | apply bw_alloc | refine bw_set ?_ (by simp) _))
      have Lp5 := lies_grown (Lp3.alloc _) hgr5 (fun e => by have e' : w1.heap.size = gh := Option.some.inj e; omega)
      have Z5' := lies_grown (Z3.alloc _) hgr5 (fun e => by have e' : w.heap.size = gh := Option.some.inj e; omega)
      obtain ⟨d05, d15, f05, f15⟩ := lies2 Lp5
      refine wpOp_now rfl (by rfl) ?_
      go_simp
      refine wpAnyH_done (by kernel_rfl) ?_ _
      simp only [Exit.then, Exit.inBlock]
      have hne3 : ∀ t : LoopT, t.ok (w.heap.size + 1) w3 → some t.g ≠ Value.ownBlock (.slice (some ⟨gh, 0, none⟩) hs.length ch) := fun t ht e => by obtain ⟨_, _, _, _, _, _, h7⟩ := ht; exact blk_ne_own h7 hD3.2.2.1 (Option.some.inj e)
      have hggn : gg ≠ w1.heap.size := hat5.elim (fun e => by have e' : gh = gg := Option.some.inj e; omega) (fun e => by omega)
      have O5 : Only w1.heap.size w5 (w5.setCell ⟨w1.heap.size, 1, none⟩ (.slice (some ⟨gg, 0, none⟩) (hs.length + 1) cg)) := (Only.refl w1.heap.size w5).set (.inl rfl) _
      have keep5 : ∀ t : LoopT, t.ok (w.heap.size + 1) w3 → t.g ≠ w1.heap.size → t.ok (w.heap.size + 1) (w5.setCell ⟨w1.heap.size, 1, none⟩ (.slice (some ⟨gg, 0, none⟩) (hs.length + 1) cg)) := fun t ht hne => ((ht.below Bq).grown hgr5 (hne3 t ht)).only' O5 hne
      have hr5 := own_only' hown5 O5 (fun e => hggn (Option.some.inj e))
      have hD4 : PlD (w.heap.size + 1) (w5.setCell ⟨w1.heap.size, 1, none⟩ (.slice (some ⟨gg, 0, none⟩) (hs.length + 1) cg)) ⟨g, n, c, l⟩ (.slice (some ⟨gg, 0, none⟩) (hs.length + 1) cg) (hs ++ [(⟨g3, n3, c3, l3⟩ : LoopT)]) := by
        refine ⟨keep5 _ hD3.1 (by show g ≠ _; omega), by simp; omega, by simpa [LoopT.v] using hr5, fun t ht => ?_⟩
        rcases List.mem_append.1 ht with h | h
        · exact keep5 t (hD3.2.2.2 t h) (Nat.ne_of_lt (hgs t h))
        · obtain rfl : t = ⟨g3, n3, c3, l3⟩ := by simpa using h
          exact keep5 _ ⟨h3, by show n3 ≤ 8; omega, hl3, hc3, hm3, by show w.heap.size + 1 ≤ g3; omega, hB3⟩ (by show g3 ≠ _; omega)
      have R4 := ((R3.below Bq).grown hgr5 (fun j e => by have e' : gh = j := Option.some.inj e; omega)).set (p := ⟨w1.heap.size, 1, none⟩) (by show r < w1.heap.size; omega) (.slice (some ⟨gg, 0, none⟩) (hs.length + 1) cg)
      have P4 := ((P3.trans (Only.of_below Bq)).grown hgr5 (fun j e => by have e' : gh = j := Option.some.inj e; omega)).set (p := ⟨w1.heap.size, 1, none⟩) (.inr (by show w.heap.size ≤ w1.heap.size; omega)) (.slice (some ⟨gg, 0, none⟩) (hs.length + 1) cg)
      have L4 := lies_set1 (z := .slice (some ⟨gg, 0, none⟩) (hs.length + 1) cg) Lp5
      have Z4 : Lies w.heap.size #[.slice none 0 0, .slice none 0 0] 40 (w5.setCell ⟨w1.heap.size, 1, none⟩ (.slice (some ⟨gg, 0, none⟩) (hs.length + 1) cg)) := set_oth Z5' (by omega)
      clear hown5 hgr5 hat5 hlt5 keep5 hr5 O5 hne3 hD3 Lp3 Z3 R3 P3 Lp5 Z5' d03 d13 f03 f13 d05 d15 f05 f15 Bq hB3 O3 hX PD ZD LpD hDD
      generalize w5.setCell ⟨w1.heap.size, 1, none⟩ (.slice (some ⟨gg, 0, none⟩) (hs.length + 1) cg) = x4 at *
      clear y0 y1 yf0 yf1 d0 d1 f0 f1
      obtain ⟨d0, d1, f0, f1⟩ := lies2 L4
      obtain ⟨y0, y1, yf0, yf1⟩ := lies2 Z4
      have Z5 := setB2 (u0 := .slice (some ⟨g, 0, none⟩) n c) (u1 := .slice (some ⟨gg, 0, none⟩) (hs.length + 1) cg) Z4
      obtain ⟨v0, v1, _, _⟩ := lies2 Z5
      go_wp2_with fail
      refine bodyPost_ret (v := .agg #[.slice (some ⟨g, 0, none⟩) n c, .slice (some ⟨gg, 0, none⟩) (hs.length + 1) cg]) (by simp [results, Tryd.results44, go_sem, v0, v1]) rfl ?_
      have hD5 := (hD4.only ((Only.refl w.heap.size x4).set (p := ⟨w.heap.size, 0, none⟩) (.inl rfl) (.slice (some ⟨g, 0, none⟩) n c)) (by omega)).only ((Only.refl w.heap.size _).set (p := ⟨w.heap.size, 1, none⟩) (.inl rfl) (.slice (some ⟨gg, 0, none⟩) (hs.length + 1) cg)) (by omega)
      exact ⟨⟨g, n, c, l⟩, _, hs ++ [(⟨g3, n3, c3, l3⟩ : LoopT)], k3, rfl, hD5.mono (by omega), ⟨by simp; try omega, ⟨_, _, _, rfl⟩⟩, by omega, (R4.set (by show r < w.heap.size; omega) _).set (by show r < w.heap.size; omega) _, (P4.set (.inr (by show w.heap.size ≤ w.heap.size; omega)) _).set (.inr (by show w.heap.size ≤ w.heap.size; omega)) _⟩
    · skip
      refine wpOp_now rfl (by rfl) ?_
      go_simp
      refine hX.mono ?_
      rintro e w3 ⟨g3, n3, c3, l3, k3, rfl, h3, h7, hl3, hc3, hm3, hb3, hB3, hk3, R3, O3⟩
      have P3 := PD.trans O3
      have Z3 : Lies w.heap.size #[.slice none 0 0, .slice none 0 0] 40 w3 := keepO O3 ZD (by omega)
      have Lp3 : Lies w1.heap.size #[.slice (some ⟨g, 0, none⟩) n c, .slice (some ⟨gh, 0, none⟩) hs.length ch] 40 w3 := keepO O3 LpD (by omega)
      have hD3 := hDD.only O3 (by omega)
      obtain ⟨d03, d13, f03, f13⟩ := lies2 Lp3
      have zz3 := Lp3.lt
      have zr3 := R3.lt
      have zg3 := hB3.lt
      have hb3' : w2.heap.size ≤ g3 := hb3
      refine wpAnyH_all (rs := [1, 4]) (by kernel_rfl) (by simp) ?_
      intro i hi
      have hi' : i = 1 ∨ i = 4 := by simpa using hi
      clear hi
      rcases hi' with rfl | rfl
      · skip
        refine YieldsIf.wpOp (S := fun w' => w' = w3) (v := .slice (some ⟨gh, 0, none⟩) hs.length ch) rfl (Or.inl ⟨by rfl, by rintro w' rfl; go_simp⟩) rfl ⟨trivial, ?_⟩
        refine wpAnyH_all (rs := [4]) (by kernel_rfl) (by simp) ?_
        intro i hi
        obtain rfl : i = 4 := by simpa using hi
        refine wpOp_now rfl (by rfl) ?_
        go_simp
        refine wpAnyH_all (rs := [5]) (by kernel_rfl) (by simp) ?_
        intro i hi
        obtain rfl : i = 5 := by simpa using hi
        refine wpOp_now rfl (by rfl) ?_
        refine wp_append_lies _ _ _ _ (by rfl) (w.heap.size + 1) 25 i0 _ 1 24 Tryd.underlying38 hi0 hz0 hz1 hz2 rfl (by omega) _ hs.length _ (by rfl) (hD3.2.2.1.alloc _) ⟨w3.heap.size, 0, none⟩ 1 1 [.slice (some ⟨g3, 0, none⟩) n3 c3] (by rfl) (by rfl) (World.news_of_block (cs := #[.slice (some ⟨g3, 0, none⟩) n3 c3]) (t := 25) (fr := (0, 0)) (heap_alloc_new w3 _)) (by simp [Value.oneCell']) (by omega) hmax (by omega) (by simp; omega) (w3.heap.size + 1) (by simp) ?_
        intro gg cg w5 hown5 hgr5 hat5 hlt5
        refine ⟨trivial, ?_⟩
        simp only [Act.put, List.setIfInBounds_toArray]
        refine wpAnyH_take (i := 6) (v := .pointer (some ⟨w1.heap.size, 1, none⟩)) rfl (by kernel_rfl) (by kernel_rfl) (by kernel_rfl) (fun _ _ _ h => h) (Or.inl ⟨by rfl, by intro w' _; go_simp⟩) trivial ?_
        refine wpAnyH_all (rs := [7]) (by kernel_rfl) (by simp) ?_
        intro i hi
        obtain rfl : i = 7 := by simpa using hi
        have Bq : Below w3.heap.size w3 (w3.alloc (.cells #[.slice (some ⟨g3, 0, none⟩) n3 c3] 25)) := (by repeat (first | exact bw_refl _ | assumption | apply bw_drewN | apply bw_drew | apply bw_alloc | refine bw_set ?_ (by simp) _))
        have Lp5 := lies_grown (Lp3.alloc _) hgr5 (fun e => by have e' : w1.heap.size = gh := Option.some.inj e; omega)
        have Z5' := lies_grown (Z3.alloc _) hgr5 (fun e => by have e' : w.heap.size = gh := Option.some.inj e; omega)
        obtain ⟨d05, d15, f05, f15⟩ := lies2 Lp5
        refine wpOp_now rfl (by rfl) ?_
        go_simp
        refine wpAnyH_done (by kernel_rfl) ?_ _
        simp only [Exit.then, Exit.inBlock]
        have hne3 : ∀ t : LoopT, t.ok (w.heap.size + 1) w3 → some t.g ≠ Value.ownBlock (.slice (some ⟨gh, 0, none⟩) hs.length ch) := fun t ht e => by obtain ⟨_, _, _, _, _, _, h7⟩ := ht; exact blk_ne_own h7 hD3.2.2.1 (Option.some.inj e)
        have hggn : gg ≠ w1.heap.size := hat5.elim (fun e => by have e' : gh = gg := Option.some.inj e; omega) (fun e => by omega)
        have O5 : Only w1.heap.size w5 (w5.setCell ⟨w1.heap.size, 1, none⟩ (.slice (some ⟨gg, 0, none⟩) (hs.length + 1) cg)) := (Only.refl w1.heap.size w5).set (.inl rfl) _
        have keep5 : ∀ t : LoopT, t.ok (w.heap.size + 1) w3 → t.g ≠ w1.heap.size → t.ok (w.heap.size + 1) (w5.setCell ⟨w1.heap.size, 1, none⟩ (.slice (some ⟨gg, 0, none⟩) (hs.length + 1) cg)) := fun t ht hne => ((ht.below Bq).grown hgr5 (hne3 t ht)).only' O5 hne
        have hr5 := own_only' hown5 O5 (fun e => hggn (Option.some.inj e))
        have hD4 : PlD (w.heap.size + 1) (w5.setCell ⟨w1.heap.size, 1, none⟩ (.slice (some ⟨gg, 0, none⟩) (hs.length + 1) cg)) ⟨g, n, c, l⟩ (.slice (some ⟨gg, 0, none⟩) (hs.length + 1) cg) (hs ++ [(⟨g3, n3, c3, l3⟩ : LoopT)]) := by
          refine ⟨keep5 _ hD3.1 (by show g ≠ _; omega), by simp; omega, by simpa [LoopT.v] using hr5, fun t ht => ?_⟩
          rcases List.mem_append.1 ht with h | h
          · exact keep5 t (hD3.2.2.2 t h) (Nat.ne_of_lt (hgs t h))
          · obtain rfl : t = ⟨g3, n3, c3, l3⟩ := by simpa using h
            exact keep5 _ ⟨h3, by show n3 ≤ 8; omega, hl3, hc3, hm3, by show w.heap.size + 1 ≤ g3; omega, hB3⟩ (by show g3 ≠ _; omega)
        have R4 := ((R3.below Bq).grown hgr5 (fun j e => by have e' : gh = j := Option.some.inj e; omega)).set (p := ⟨w1.heap.size, 1, none⟩) (by show r < w1.heap.size; omega) (.slice (some ⟨gg, 0, none⟩) (hs.length + 1) cg)
        have P4 := ((P3.trans (Only.of_below Bq)).grown hgr5 (fun j e => by have e' : gh = j := Option.some.inj e; omega)).set (p := ⟨w1.heap.size, 1, none⟩) (.inr (by show w.heap.size ≤ w1.heap.size; omega)) (.slice (some ⟨gg, 0, none⟩) (hs.length + 1) cg)
        have L4 := lies_set1 (z := .slice (some ⟨gg, 0, none⟩) (hs.length + 1) cg) Lp5
        have Z4 : Lies w.heap.size #[.slice none 0 0, .slice none 0 0] 40 (w5.setCell ⟨w1.heap.size, 1, none⟩ (.slice (some ⟨gg, 0, none⟩) (hs.length + 1) cg)) := set_oth Z5' (by omega)
        clear hown5 hgr5 hat5 hlt5 keep5 hr5 O5 hne3 hD3 Lp3 Z3 R3 P3 Lp5 Z5' d03 d13 f03 f13 d05 d15 f05 f15 Bq hB3 O3 hX PD ZD LpD hDD
        generalize w5.setCell ⟨w1.heap.size, 1, none⟩ (.slice (some ⟨gg, 0, none⟩) (hs.length + 1) cg) = x4 at *
        clear y0 y1 yf0 yf1 d0 d1 f0 f1
        obtain ⟨d0, d1, f0, f1⟩ := lies2 L4
        obtain ⟨y0, y1, yf0, yf1⟩ := lies2 Z4
        have Z5 := setB2 (u0 := .slice (some ⟨g, 0, none⟩) n c) (u1 := .slice (some ⟨gg, 0, none⟩) (hs.length + 1) cg) Z4
        obtain ⟨v0, v1, _, _⟩ := lies2 Z5
        go_wp2_with fail
        refine bodyPost_ret (v := .agg #[.slice (some ⟨g, 0, none⟩) n c, .slice (some ⟨gg, 0, none⟩) (hs.length + 1) cg]) (by simp [results, Tryd.results44, go_sem, v0, v1]) rfl ?_
        have hD5 := (hD4.only ((Only.refl w.heap.size x4).set (p := ⟨w.heap.size, 0, none⟩) (.inl rfl) (.slice (some ⟨g, 0, none⟩) n c)) (by omega)).only ((Only.refl w.heap.size _).set (p := ⟨w.heap.size, 1, none⟩) (.inl rfl) (.slice (some ⟨gg, 0, none⟩) (hs.length + 1) cg)) (by omega)
        exact ⟨⟨g, n, c, l⟩, _, hs ++ [(⟨g3, n3, c3, l3⟩ : LoopT)], k3, rfl, hD5.mono (by omega), ⟨by simp; try omega, ⟨_, _, _, rfl⟩⟩, by omega, (R4.set (by show r < w.heap.size; omega) _).set (by show r < w.heap.size; omega) _, (P4.set (.inr (by show w.heap.size ≤ w.heap.size; omega)) _).set (.inr (by show w.heap.size ≤ w.heap.size; omega)) _⟩
      · skip
        refine wpOp_now rfl (by rfl) ?_
        go_simp
        refine wpAnyH_all (rs := [1]) (by kernel_rfl) (by simp) ?_
        intro i hi
        obtain rfl : i = 1 := by simpa using hi
        refine YieldsIf.wpOp (S := fun w' => w' = w3.alloc (.cells #[.slice (some ⟨g3, 0, none⟩) n3 c3] 25)) (v := .slice (some ⟨gh, 0, none⟩) hs.length ch) rfl (Or.inl ⟨by rfl, by rintro w' rfl; go_simp⟩) rfl ⟨trivial, ?_⟩
        refine wpAnyH_all (rs := [5]) (by kernel_rfl) (by simp) ?_
        intro i hi
        obtain rfl : i = 5 := by simpa using hi
        refine wpOp_now rfl (by rfl) ?_
        refine wp_append_lies _ _ _ _ (by rfl) (w.heap.size + 1) 25 i0 _ 1 24 Tryd.underlying38 hi0 hz0 hz1 hz2 rfl (by omega) _ hs.length _ (by rfl) (hD3.2.2.1.alloc _) ⟨w3.heap.size, 0, none⟩ 1 1 [.slice (some ⟨g3, 0, none⟩) n3 c3] (by rfl) (by rfl) (World.news_of_block (cs := #[.slice (some ⟨g3, 0, none⟩) n3 c3]) (t := 25) (fr := (0, 0)) (heap_alloc_new w3 _)) (by simp [Value.oneCell']) (by omega) hmax (by omega) (by simp; omega) (w3.heap.size + 1) (by simp) ?_
        intro gg cg w5 hown5 hgr5 hat5 hlt5
        refine ⟨trivial, ?_⟩
        simp only [Act.put, List.setIfInBounds_toArray]
        refine wpAnyH_take (i := 6) (v := .pointer (some ⟨w1.heap.size, 1, none⟩)) rfl (by kernel_rfl) (by kernel_rfl) (by kernel_rfl) (fun _ _ _ h => h) (Or.inl ⟨by rfl, by intro w' _; go_simp⟩) trivial ?_
        refine wpAnyH_all (rs := [7]) (by kernel_rfl) (by simp) ?_
        intro i hi
        obtain rfl : i = 7 := by simpa using hi
        have Bq : Below w3.heap.size w3 (w3.alloc (.cells #[.slice (some ⟨g3, 0, none⟩) n3 c3] 25)) := (by repeat (first | exact bw_refl _ | assumption | apply bw_drewN | apply bw_drew | apply bw_alloc | refine bw_set ?_ (by simp) _))
        have Lp5 := lies_grown (Lp3.alloc _) hgr5 (fun e => by have e' : w1.heap.size = gh := Option.some.inj e; omega)
        have Z5' := lies_grown (Z3.alloc _) hgr5 (fun e => by have e' : w.heap.size = gh := Option.some.inj e; omega)
        obtain ⟨d05, d15, f05, f15⟩ := lies2 Lp5
        refine wpOp_now rfl (by rfl) ?_
        go_simp
        refine wpAnyH_done (by kernel_rfl) ?_ _
        simp only [Exit.then, Exit.inBlock]
        have hne3 : ∀ t : LoopT, t.ok (w.heap.size + 1) w3 → some t.g ≠ Value.ownBlock (.slice (some ⟨gh, 0, none⟩) hs.length ch) := fun t ht e => by obtain ⟨_, _, _, _, _, _, h7⟩ := ht; exact blk_ne_own h7 hD3.2.2.1 (Option.some.inj e)
        have hggn : gg ≠ w1.heap.size := hat5.elim (fun e => by have e' : gh = gg := Option.some.inj e; omega) (fun e => by omega)
        have O5 : Only w1.heap.size w5 (w5.setCell ⟨w1.heap.size, 1, none⟩ (.slice (some ⟨gg, 0, none⟩) (hs.length + 1) cg)) := (Only.refl w1.heap.size w5).set (.inl rfl) _
        have keep5 : ∀ t : LoopT, t.ok (w.heap.size + 1) w3 → t.g ≠ w1.heap.size → t.ok (w.heap.size + 1) (w5.setCell ⟨w1.heap.size, 1, none⟩ (.slice (some ⟨gg, 0, none⟩) (hs.length + 1) cg)) := fun t ht hne => ((ht.below Bq).grown hgr5 (hne3 t ht)).only' O5 hne
        have hr5 := own_only' hown5 O5 (fun e => hggn (Option.some.inj e))
        have hD4 : PlD (w.heap.size + 1) (w5.setCell ⟨w1.heap.size, 1, none⟩ (.slice (some ⟨gg, 0, none⟩) (hs.length + 1) cg)) ⟨g, n, c, l⟩ (.slice (some ⟨gg, 0, none⟩) (hs.length + 1) cg) (hs ++ [(⟨g3, n3, c3, l3⟩ : LoopT)]) := by
          refine ⟨keep5 _ hD3.1 (by show g ≠ _; omega), by simp; omega, by simpa [LoopT.v] using hr5, fun t ht => ?_⟩
          rcases List.mem_append.1 ht with h | h
          · exact keep5 t (hD3.2.2.2 t h) (Nat.ne_of_lt (hgs t h))
          · obtain rfl : t = ⟨g3, n3, c3, l3⟩ := by simpa using h
            exact keep5 _ ⟨h3, by show n3 ≤ 8; omega, hl3, hc3, hm3, by show w.heap.size + 1 ≤ g3; omega, hB3⟩ (by show g3 ≠ _; omega)
        have R4 := ((R3.below Bq).grown hgr5 (fun j e => by have e' : gh = j := Option.some.inj e; omega)).set (p := ⟨w1.heap.size, 1, none⟩) (by show r < w1.heap.size; omega) (.slice (some ⟨gg, 0, none⟩) (hs.length + 1) cg)
        have P4 := ((P3.trans (Only.of_below Bq)).grown hgr5 (fun j e => by have e' : gh = j := Option.some.inj e; omega)).set (p := ⟨w1.heap.size, 1, none⟩) (.inr (by show w.heap.size ≤ w1.heap.size; omega)) (.slice (some ⟨gg, 0, none⟩) (hs.length + 1) cg)
        have L4 := lies_set1 (z := .slice (some ⟨gg, 0, none⟩) (hs.length + 1) cg) Lp5
        have Z4 : Lies w.heap.size #[.slice none 0 0, .slice none 0 0] 40 (w5.setCell ⟨w1.heap.size, 1, none⟩ (.slice (some ⟨gg, 0, none⟩) (hs.length + 1) cg)) := set_oth Z5' (by omega)
        clear hown5 hgr5 hat5 hlt5 keep5 hr5 O5 hne3 hD3 Lp3 Z3 R3 P3 Lp5 Z5' d03 d13 f03 f13 d05 d15 f05 f15 Bq hB3 O3 hX PD ZD LpD hDD
        generalize w5.setCell ⟨w1.heap.size, 1, none⟩ (.slice (some ⟨gg, 0, none⟩) (hs.length + 1) cg) = x4 at *
        clear y0 y1 yf0 yf1 d0 d1 f0 f1
        obtain ⟨d0, d1, f0, f1⟩ := lies2 L4
        obtain ⟨y0, y1, yf0, yf1⟩ := lies2 Z4
        have Z5 := setB2 (u0 := .slice (some ⟨g, 0, none⟩) n c) (u1 := .slice (some ⟨gg, 0, none⟩) (hs.length + 1) cg) Z4
        obtain ⟨v0, v1, _, _⟩ := lies2 Z5
        go_wp2_with fail
        refine bodyPost_ret (v := .agg #[.slice (some ⟨g, 0, none⟩) n c, .slice (some ⟨gg, 0, none⟩) (hs.length + 1) cg]) (by simp [results, Tryd.results44, go_sem, v0, v1]) rfl ?_
        have hD5 := (hD4.only ((Only.refl w.heap.size x4).set (p := ⟨w.heap.size, 0, none⟩) (.inl rfl) (.slice (some ⟨g, 0, none⟩) n c)) (by omega)).only ((Only.refl w.heap.size _).set (p := ⟨w.heap.size, 1, none⟩) (.inl rfl) (.slice (some ⟨gg, 0, none⟩) (hs.length + 1) cg)) (by omega)
        exact ⟨⟨g, n, c, l⟩, _, hs ++ [(⟨g3, n3, c3, l3⟩ : LoopT)], k3, rfl, hD5.mono (by omega), ⟨by simp; try omega, ⟨_, _, _, rfl⟩⟩, by omega, (R4.set (by show r < w.heap.size; omega) _).set (by show r < w.heap.size; omega) _, (P4.set (.inr (by show w.heap.size ≤ w.heap.size; omega)) _).set (.inr (by show w.heap.size ≤ w.heap.size; omega)) _⟩
  · have hok := hD.1
    obtain ⟨o1, o2, o3, o4, o5, o6, o7⟩ := hok
    have o3' : l.length = n := o3
    have o1' : 3 ≤ n := o1
    have hownO : w2.ownsRow (w.heap.size + 1) 46 2 (.slice (some ⟨g, 0, none⟩) n c) n (ptCells l) := own_of_blk o7 o3 o4 o5 o6
    have hm1 : (w2.alloc (.cells #[] 46)).ownsRow w2.heap.size 46 2 (.slice (some ⟨w2.heap.size, 0, none⟩) 0 0) 0 [] := World.ownsRow_made w2 #[] 0 (Nat.le_refl _) (by simp [maxLen]) rfl
    have hnw : ∀ j u, (ptCells l)[j]? = some u → (w2.alloc (.cells #[] 46)).cell? ((⟨g, 0, none⟩ : Addr).add j) = some u := (hownO.alloc _).cells (g := g) rfl
    have hone : ∀ u ∈ ptCells l, u.oneCell' = true := by intro u hu; simp only [ptCells, List.mem_flatMap] at hu; obtain ⟨p, _, hp⟩ := hu; simp at hp; rcases hp with rfl | rfl <;> rfl
    have hpl : (ptCells l).length = n * 2 := by rw [ptCells_len, o3']
    have B1 : Below w2.heap.size w2 (w2.alloc (.cells #[] 46)) := (by repeat (first | exact bw_refl _ | assumption | apply bw_drewN | apply bw_drew | apply bw_alloc | refine bw_set ?_ (by simp) _))
    have LqA := Lp.below B1
    have ZA := Z.below B1
    have z02 : w.heap.size < w2.heap.size := by omega
    have zr2 := R.lt
    go_wp2_with (first
      | (at_builtin; refine wpList_append_own_wide _ rfl _ _ _ rfl w2.heap.size 46 j0 _ 2 16 Tryd.underlying25 hj0 jz0 jz1 jz2 rfl (by omega) _ 0 [] rfl hm1 ⟨g, 0, none⟩ n c (ptCells l) rfl hpl hnw hone (by simp [maxLen]; omega) (by omega) (by simp) ?_; intro v1 x6 hown1 hgr1 hnil1; have zx6 := hgr1.size; have Lq6 := lies_grown LqA hgr1 (fun e => absurd (Option.some.inj e) (Nat.ne_of_lt z2)); have R6 := (R.below B1).grown hgr1 (fun j e => by have e' : w2.heap.size = j := Option.some.inj e; omega); have zw6 : w2.heap.size + 1 ≤ x6.heap.size := by simpa using zx6)
      | (go_at_call 45; refine (l71Pt_any (k1 + 1) a len cap r _ (by omega) R6).mono ?_; rintro e x7 ⟨s, t, k7, rfl, hPB, hk7, R7, O7⟩; have zx7 := O7.size; have Z6 := lies_grown ZA hgr1 (fun e => absurd (Option.some.inj e) (Nat.ne_of_lt z02)); have Lq7 : Lies w1.heap.size #[.slice (some ⟨g, 0, none⟩) n c, .slice (some ⟨gh, 0, none⟩) hs.length ch] 40 x7 := keepO O7 Lq6 (by omega); have hown7 := own_only hown1 O7 (by omega); have Z7 : Lies w.heap.size #[.slice none 0 0, .slice none 0 0] 40 x7 := keepO O7 Z6 (by omega))
      | (at_builtin; refine wpList_append_lies _ rfl _ _ _ rfl w2.heap.size 46 j0 _ 2 16 Tryd.underlying25 hj0 jz0 jz1 jz2 rfl (by omega) _ (0 + n) _ rfl (hown7.alloc _) ⟨x7.heap.size, 0, none⟩ 1 1 [.int .i64 s, .int .i64 t] rfl rfl (World.news_of_block (cs := #[.int .i64 s, .int .i64 t]) (t := 46) (fr := (0, 0)) (heap_alloc_new x7 _)) (by simp [Value.oneCell']) (by omega) (by simp [maxLen]; omega) (by omega) (by simp; omega) (x7.heap.size + 1) (by simp) ?_; intro gg cg x8 hown8 hgr8 hat8 hlt8; have Lq8 := lies_grown (Lq7.alloc _) hgr8 (fun e => by have := (hown7.lt _ e.symm).1; omega); obtain ⟨s0, s1, sf0, sf1⟩ := lies2 Lq8; have Z8 := lies_grown (Z7.alloc _) hgr8 (fun e => by have := (hown7.lt _ e.symm).1; omega); obtain ⟨yy0, yy1, yyf0, yyf1⟩ := lies2 Z8))
    have Z9 : Lies w.heap.size #[.slice none 0 0, .slice none 0 0] 40 (x8.setCell ⟨w1.heap.size, 0, none⟩ (.slice (some ⟨gg, 0, none⟩) (n + 1) cg)) := set_oth Z8 (by omega)
    have Z10 := setB2 (u0 := .slice (some ⟨gg, 0, none⟩) (n + 1) cg) (u1 := .slice (some ⟨gh, 0, none⟩) hs.length ch) Z9
    obtain ⟨v0, v1', _, _⟩ := lies2 Z10
    refine bodyPost_ret (v := .agg #[.slice (some ⟨gg, 0, none⟩) (n + 1) cg, .slice (some ⟨gh, 0, none⟩) hs.length ch]) (by simp [results, Tryd.results44, go_sem, v0, v1']) rfl ?_
    have B2 : Below x7.heap.size x7 (x7.alloc (.cells #[.int .i64 s, .int .i64 t] 46)) := (by repeat (first | exact bw_refl _ | assumption | apply bw_drewN | apply bw_drew | apply bw_alloc | refine bw_set ?_ (by simp) _))
    have n8 : ∀ j : Nat, some j = v1.ownBlock → w2.heap.size ≤ j := fun j e => (hown7.lt j e.symm).1
    have O9 : Only w1.heap.size x8 (x8.setCell ⟨w1.heap.size, 0, none⟩ (.slice (some ⟨gg, 0, none⟩) (n + 1) cg)) := (Only.refl w1.heap.size x8).set (.inl rfl) _
    have keep9 : ∀ t : LoopT, t.ok (w.heap.size + 1) w2 → t.g ≠ w1.heap.size → t.ok (w.heap.size + 1) (x8.setCell ⟨w1.heap.size, 0, none⟩ (.slice (some ⟨gg, 0, none⟩) (n + 1) cg)) := fun t ht hne => by
      have hl : t.g < w2.heap.size := ht.lt
      have hb : w.heap.size + 1 ≤ t.g := ht.2.2.2.2.2.1
      exact ((((ht.below B1).grown hgr1 (fun e => absurd (Option.some.inj e) (Nat.ne_of_lt hl))).only O7 (by omega)).below B2).grown hgr8 (fun e => by have := n8 _ e; omega) |>.only' O9 hne
    have hr9 := own_only' (own_grown (own_below (own_only (own_grown (own_below hD.2.2.1 B1) hgr1 (fun e => by have e' : gh = w2.heap.size := Option.some.inj e; omega)) O7 (by omega)) B2) hgr8 (fun e => by have := n8 gh e; omega)) O9 (fun e => by have e' : gh = w1.heap.size := Option.some.inj e; omega)
    have hggw : w2.heap.size ≤ gg := (hown8.lt gg rfl).1
    have hown9 : x8.ownsRow (w.heap.size + 1) 46 2 (.slice (some ⟨gg, 0, none⟩) (n + 1) cg) (n + 1) (ptCells (l ++ [(s, t)])) := by
      rw [ptCells_snoc]
      have := own_mono hown8 (show w.heap.size + 1 ≤ w2.heap.size by omega)
      simpa using this
    obtain ⟨hb9, hnc9, hcm9, hbg9⟩ := blk_of_own hown9 (by simp [o3'])
    have hD4 : PlD (w.heap.size + 1) (x8.setCell ⟨w1.heap.size, 0, none⟩ (.slice (some ⟨gg, 0, none⟩) (n + 1) cg)) ⟨gg, n + 1, cg, l ++ [(s, t)]⟩ (.slice (some ⟨gh, 0, none⟩) hs.length ch) hs :=
      ⟨LoopT.ok.only' ⟨by show 3 ≤ n + 1; omega, by show n + 1 ≤ 8; omega, by simp [o3'], hnc9, hcm9, by show w.heap.size + 1 ≤ gg; omega, hb9⟩ O9 (by show gg ≠ _; omega), hD.2.1, hr9, fun t ht => keep9 t (hD.2.2.2 t ht) (Nat.ne_of_lt (hgs t ht))⟩
    have R4 := ((R7.below B2).grown hgr8 (fun j e => by have := n8 j e.symm; omega)).set (p := ⟨w1.heap.size, 0, none⟩) (by show r < w1.heap.size; omega) (.slice (some ⟨gg, 0, none⟩) (n + 1) cg)
    have P4 := (((((P.trans (Only.of_below B1)).grown hgr1 (fun j e => by have e' : w2.heap.size = j := Option.some.inj e; omega)).trans O7).trans (Only.of_below B2)).grown hgr8 (fun j e => by have := n8 j e.symm; omega)).set (p := ⟨w1.heap.size, 0, none⟩) (.inr (by show w.heap.size ≤ w1.heap.size; omega)) (.slice (some ⟨gg, 0, none⟩) (n + 1) cg)
    generalize x8.setCell ⟨w1.heap.size, 0, none⟩ (.slice (some ⟨gg, 0, none⟩) (n + 1) cg) = x4 at *
    have hD5 := (hD4.only ((Only.refl w.heap.size x4).set (p := ⟨w.heap.size, 0, none⟩) (.inl rfl) (.slice (some ⟨gg, 0, none⟩) (n + 1) cg)) (by omega)).only ((Only.refl w.heap.size _).set (p := ⟨w.heap.size, 1, none⟩) (.inl rfl) (.slice (some ⟨gh, 0, none⟩) hs.length ch)) (by omega)
    exact ⟨⟨gg, n + 1, cg, l ++ [(s, t)]⟩, _, hs, k7, rfl, hD5.mono (by omega), ⟨by omega, ⟨_, _, _, rfl⟩⟩, by omega, (R4.set (by show r < w.heap.size; omega) _).set (by show r < w.heap.size; omega) _, (P4.set (.inr (by show w.heap.size ≤ w.heap.size; omega)) _).set (.inr (by show w.heap.size ≤ w.heap.size; omega)) _⟩
  · have e0 : (q == 0) = false := by simpa using q0
    have e1 : (q == 1) = false := by simpa using q1
    have e2 : (q == 2) = false := by simpa using q2
    have Z1 := setB2 (u0 := .slice (some ⟨g, 0, none⟩) n c) (u1 := .slice (some ⟨gh, 0, none⟩) hs.length ch) Z
    obtain ⟨v0, v1, _, _⟩ := lies2 Z1
    go_wp2_with fail
    refine bodyPost_ret (v := .agg #[.slice (some ⟨g, 0, none⟩) n c, .slice (some ⟨gh, 0, none⟩) hs.length ch]) (by simp [results, Tryd.results44, go_sem, v0, v1]) rfl ?_
    have hD2 := (hD.only ((Only.refl w.heap.size w2).set (p := ⟨w.heap.size, 0, none⟩) (.inl rfl) (.slice (some ⟨g, 0, none⟩) n c)) (by omega)).only ((Only.refl w.heap.size _).set (p := ⟨w.heap.size, 1, none⟩) (.inl rfl) (.slice (some ⟨gh, 0, none⟩) hs.length ch)) (by omega)
    exact ⟨⟨g, n, c, l⟩, _, hs, k1 + 1, rfl, hD2.mono (by omega), ⟨by omega, hst⟩, by omega, (R.set (by show r < w.heap.size; omega) _).set (by show r < w.heap.size; omega) _, (P.set (.inr (by show w.heap.size ≤ w.heap.size; omega)) _).set (.inr (by show w.heap.size ≤ w.heap.size; omega)) _⟩
end Go.Proofs.YtfnhbdanfnpdeaaDoor
namespace Go.Proofs.YtfnhbdanfnpdeaaDoor
open Go.RowKit

theorem boxes1' (w : World) (o : Obj) : ∃ W, W = w.alloc o ∧ Below w.heap.size w W ∧ W.heap[w.heap.size]? = some o := ⟨_, rfl, (by repeat (first | exact bw_refl _ | assumption | apply bw_drewN | apply bw_drew | apply bw_alloc | refine bw_set ?_ (by simp) _)), heap_new _ _⟩
/-- A loop that was drawn: points of our own memory. -/
def Loopy (base : Nat) (w' : World) (v : Value) (l : List P2) (n : Nat) : Prop :=
  ∃ (g c : Nat), v = .slice (some ⟨g, 0, none⟩) n c ∧ 3 ≤ n ∧ n ≤ 7 ∧ l.length = n ∧ n ≤ c ∧ c ≤ maxLen ∧ base ≤ g ∧ PtBlk w' g c l n
theorem Loopy.below {base : Nat} {w w' : World} {v : Value} {l : List P2} {n : Nat} (h : Loopy base w v l n) (J : Below w.heap.size w w') : Loopy base w' v l n := by
  obtain ⟨g, c, e, h1, h2, h3, h4, h5, h6, h7⟩ := h
  exact ⟨g, c, e, h1, h2, h3, h4, h5, h6, h7.below J⟩
theorem PtBlk.pts' {W : World} {g c n : Nat} {l : List P2} (h : PtBlk W g c l n) (hl : l.length = n) : Pts W.heap.size W (some ⟨g, 0, none⟩) n l := by
  have hg := h.lt
  obtain ⟨cur, h, hs, hc⟩ := h
  refine ⟨hl, .inr ⟨g, 0, rfl, hg, fun j hj => ?_⟩⟩
  rw [Nat.zero_add, row_cell h, row_cell h]; exact hc j hj
end Go.Proofs.YtfnhbdanfnpdeaaDoor
namespace Go.Proofs.YtfnhbdanfnpdeaaDoor
open Go.RowKit

theorem PlD.set {base b i : Nat} {W : World} {o : LoopT} {hv : Value} {hs : List LoopT} (h : PlD base W o hv hs) (hb : b < base) (v : Value) : PlD base (W.setCell ⟨b, i, none⟩ v) o hv hs :=
  h.only ((Only.refl b W).set (p := ⟨b, i, none⟩) (.inl rfl) v) hb
set_option maxRecDepth 100000 in
set_option maxHeartbeats 2000000 in
theorem drawPlateIn_any {a : Option Addr} {len0 cap : Nat} {zs : List Int} (w0 w : World) (h : IsRow .u8 w0 a len0 cap zs) (hb : Below w0.heap.size w0 w) :
    Calls Tryd.prog 21 #[.slice a len0 cap] w fun e w' => ∃ (o : LoopT) (hv : Value) (hs : List LoopT) (x y : Int), e = .returned (.tuple #[.agg #[o.v, hv], .agg #[.int .i64 x, .int .i64 y]]) ∧ PB x y ∧ PlD w.heap.size w' o hv hs ∧ (hs.length ≤ 3 ∧ Seat hv) ∧ Below w.heap.size w w' := by
  obtain ⟨W, hW, BW, T, T2⟩ := boxes2 w (.cells #[.slice none 0 0, .slice none 0 0] 40) (.cells #[.int .i64 0, .int .i64 0] 46)
  go_enter Tryd.func21, Tryd.ntmps21
  go_wp2_with fail
  rw [← hW]
  clear hW
  refine (open_rd w0 _ h (bw_trans hb BW)).mono ?_
  rintro e w1 ⟨len, rfl, R, hb1⟩
  have zT := blk_lt T
  have zT2 := blk_lt T2
  replace T := keep hb1 T
  replace T2 := keep hb1 T2
  have K := bw_trans BW hb1
  have z1 := hb1.size
  have zr := R.lt
  clear hb1 BW
  go_wp2_with fail
  refine (plate_any 0 a len cap _ _ (by omega) R).mono ?_
  clear R
  rintro e w2 ⟨⟨g, n, c, l⟩, hv, hs, k2, he, hD, ⟨hs3, hst⟩, hk2, R, P⟩
  obtain rfl : e = .returned (.agg #[.slice (some ⟨g, 0, none⟩) n c, hv]) := he
  replace T := keepO P T (by omega)
  replace T2 := keepO P T2 (by omega)
  have KK := K.trans (P.below' (B := w.heap.size) (by omega) (by omega))
  go_wp2_with fail
  refine (l71Pt_any k2 a len cap _ _ (by omega) R).mono ?_
  clear R
  rintro e w3 ⟨x, y, k3, rfl, hPB, hk3, R, O⟩
  replace T := keepO O T (by omega)
  replace T2 := keepO O T2 (by omega)
  replace hD := hD.only O (by omega)
  replace KK := KK.trans (O.below' (B := w.heap.size) (by omega) (by have := KK.size; omega))
  obtain ⟨gh, ch, rfl⟩ : ∃ gh ch, hv = .slice (some ⟨gh, 0, none⟩) hs.length ch := own_seat hD.2.2.1 hst
  obtain ⟨a0, a1, af0, af1⟩ := blk2 T
  obtain ⟨b0, b1, bf0, bf1⟩ := blk2 T2
  go_wp2_with fail
  have T' := set_oth (b := w.heap.size + 1) (i := 1) (v := .int .i64 y) (set_oth (b := w.heap.size + 1) (i := 0) (v := .int .i64 x) (setB2 (u0 := .slice (some ⟨g, 0, none⟩) n c) (u1 := .slice (some ⟨gh, 0, none⟩) hs.length ch) T) (by omega)) (by omega)
  have T2' := setB2 (u0 := .int .i64 x) (u1 := .int .i64 y) (set_oth (b := w.heap.size) (i := 1) (v := .slice (some ⟨gh, 0, none⟩) hs.length ch) (set_oth (b := w.heap.size) (i := 0) (v := .slice (some ⟨g, 0, none⟩) n c) T2 (by omega)) (by omega))
  obtain ⟨v0, v1, _, _⟩ := blk2 T'
  obtain ⟨v2, v3, _, _⟩ := blk2 T2'
  refine bodyPost_ret (v := .tuple #[.agg #[.slice (some ⟨g, 0, none⟩) n c, .slice (some ⟨gh, 0, none⟩) hs.length ch], .agg #[.int .i64 x, .int .i64 y]]) (by simp [results, Tryd.results21, go_sem, v0, v1, v2, v3]) rfl ?_
  refine ⟨⟨g, n, c, l⟩, _, hs, x, y, rfl, hPB, ((((hD.set (by omega) _).set (by omega) _).set (by omega) _).set (by omega) _).mono (by omega), ⟨hs3, hst⟩, ?_⟩
  exact (((KK.setCell (p := ⟨w.heap.size, 0, none⟩) (Nat.le_refl _) _).setCell (p := ⟨w.heap.size, 1, none⟩) (Nat.le_refl _) _).setCell (p := ⟨w.heap.size + 1, 0, none⟩) (Nat.le_succ _) _).setCell (p := ⟨w.heap.size + 1, 1, none⟩) (Nat.le_succ _) _
end Go.Proofs.YtfnhbdanfnpdeaaDoor
namespace Go.Proofs.YtfnhbdanfnpdeaaDoor
open Go.RowKit Go.Sort

theorem conv_one (x : Int) (h0 : 0 ≤ x) (h1 : x < 256) (W : World) (b : Nat) (hc : W.cell? ⟨b, 0, none⟩ = some (.int .u8 x)) :
    (convert 44 9 (.slice (some ⟨b, 0, none⟩) 1 1)).run Tryd.prog W = .ok (.string ⟨#[UInt8.ofNat x.toNat]⟩) W := by
  refine run_convert_bytes_back W 44 9 5 ⟨b, 0, none⟩ 1 [UInt8.ofNat x.toNat] Tryd.underlying44 Tryd.underlying5 Tryd.underlying9 ?_
  intro j hj
  have hj0 : j = 0 := by simpa using hj
  subst hj0
  have e : ((UInt8.ofNat x.toNat).toNat : Int) = x := by
    rw [UInt8.toNat_ofNat']
    have : x.toNat % 2 ^ 8 = x.toNat := Nat.mod_eq_of_lt (by omega)
    rw [this]; omega
  simp only [List.getElem_cons_zero, e]
  exact hc

theorem dec_lt (u : Nat) (h : u < 10) : Lib.decDigits u = [UInt8.ofNat (48 + u)] := by rw [Lib.decDigits, dif_pos h]
theorem dec_ge (u : Nat) (h : ¬ u < 10) : Lib.decDigits u = Lib.decDigits (u / 10) ++ [UInt8.ofNat (48 + u % 10)] := by rw [Lib.decDigits, dif_neg h]
theorem dec_cat (u : Nat) (h : ¬ u < 10) : (ByteArray.mk (Lib.decDigits (u / 10)).toArray ++ ByteArray.mk #[UInt8.ofNat (48 + (u : Int) % 10).toNat]) = ByteArray.mk (Lib.decDigits u).toArray := by
  rw [dec_ge u h, ← ByteArray.mk_append_mk, show (48 + (u : Int) % 10).toNat = 48 + u % 10 by omega]
theorem ret_str {a b : ByteArray} (h : a = b) : Ending.returned (.string a) = .returned (.string b) := by rw [h]

set_option maxRecDepth 100000 in
theorem dec_small (u : Nat) (w : World) (h : u < 10) :
    Calls Tryd.prog 80 #[.int .i64 u] w fun e w' => e = .returned (.string ⟨(Lib.decDigits u).toArray⟩) ∧ Below w.heap.size w w' := by
  have hcv := conv_one (48 + (u : Int)) (by omega) (by omega)
  go_enter Tryd.func80, Tryd.ntmps80
  go_wp2_with fail
  go_ret
  exact ⟨ret_str (by rw [dec_lt u h]), by repeat (first | exact bw_refl _ | apply bw_alloc)⟩

theorem wrap_in (x : Int) (h0 : -1000000000000 ≤ x) (h1 : x ≤ 1000000000000) : IntKind.i64.wrap x = x := by
  simp [IntKind.wrap, IntKind.bits, IntKind.signed]; omega
set_option maxRecDepth 100000 in
theorem dec_any (k : Nat) : ∀ (u : Nat) (w : World), u ≤ k → u ≤ 1000000 →
    Calls Tryd.prog 80 #[.int .i64 u] w fun e w' => e = .returned (.string ⟨(Lib.decDigits u).toArray⟩) ∧ Below w.heap.size w w' := by
  induction k with
  | zero => exact fun u w h _ => dec_small u w (by omega)
  | succ k ih =>
    intro u w hu hb
    by_cases h : u < 10
    · exact dec_small u w h
    · have eX : Hid (IntKind.u8.wrap (IntKind.i64.wrap (48 + ((u : Int)).tmod 10)) = 48 + (u : Int) % 10) := by
        show _ = _
        rw [Int.tmod_eq_emod_of_nonneg (by omega), wrap_in _ (by omega) (by omega)]
        simp [IntKind.wrap, IntKind.bits, IntKind.signed]; omega
      have hcv := conv_one (IntKind.u8.wrap (IntKind.i64.wrap (48 + ((u : Int)).tmod 10))) (by rw [eX.out]; omega) (by rw [eX.out]; omega)
      have h10 : ¬ ((u : Int) < 10) := by omega
      have IH : Hid (∀ W, Calls Tryd.prog 80 #[.int .i64 (IntKind.i64.wrap ((u : Int) / 10))] W fun e w' => e = .returned (.string ⟨(Lib.decDigits (u / 10)).toArray⟩) ∧ Below W.heap.size W w') := fun W => by
        have := ih (u / 10) W (by omega) (by omega)
        rw [wrap_in _ (by omega) (by omega)]
        rwa [Int.natCast_ediv] at this
      clear ih
      have hlen : (Lib.decDigits (u / 10)).length ≤ 21 := by
        have := Lib.itoa_length_le ((u / 10 : Nat) : Int) (by omega) (by omega)
        unfold Lib.itoa at this
        rwa [if_neg (by omega), Int.toNat_natCast] at this
      have hle : (Lib.decDigits (u / 10)).length + 1 ≤ 9223372036854775807 := by omega
      go_enter Tryd.func80, Tryd.ntmps80
      go_wp2_with fail
      go_region_with (go_at_call 80; refine (IH.out _).mono ?_; rintro e w1 ⟨rfl, hb1⟩; obtain ⟨hc, hf⟩ := bcell hb1)
      all_goals go_wp2_with fail
      all_goals go_ret
      all_goals refine ⟨ret_str (dec_cat u h), ?_⟩
      all_goals repeat (first | exact bw_trans (bw_drew (bw_refl _)) hb1 | exact bw_trans (bw_drew (bw_alloc (bw_refl _) _)) hb1 | apply bw_alloc)
end Go.Proofs.YtfnhbdanfnpdeaaDoor
namespace Go.Proofs.YtfnhbdanfnpdeaaDoor
open Go.RowKit Go.Sort

/-- The library's table of powers of ten lies as it should. -/
def Tab (w : World) : Prop := Lib.TabIs Tryd.prog w "internal/strconv.uint64pow10" .u64 Lib.pow10Tab
theorem gP : Tryd.prog.globalNamed "internal/strconv.uint64pow10" = some 5 := by kernel_rfl
theorem Tab.lt {w : World} (h : Tab w) : 5 < w.heap.size := by
  unfold Tab Lib.TabIs World.var? at h
  rw [gP] at h
  rcases Nat.lt_or_ge 5 w.heap.size with h' | h'
  · exact h'
  · simp [Array.getElem?_eq_none h'] at h
theorem Tab.below {w w' : World} (h : Tab w) (hb : Below w.heap.size w w') : Tab w' := var?_below hb gP h.lt h

theorem itoa_any (n : Int) (w : World) (h0 : 0 ≤ n) (h1 : n ≤ 99999) (hT : Tab w) :
    Calls Tryd.prog 84 #[.int .i64 n] w fun e w' => e = .returned (.string ⟨(Lib.decDigits n.toNat).toArray⟩) ∧ Below w.heap.size w w' := by
  refine (shelf_strconv_Itoa n (by omega) (by omega) w hT).mono ?_
  rintro e w' ⟨rfl, k, os, rfl⟩
  refine ⟨ret_str ?_, ⟨rfl, rfl, rfl, by simp, fun j hj => by simp [grow, Array.getElem?_append, hj]⟩⟩
  unfold Lib.itoa
  rw [if_neg (by omega)]
theorem dec_int (n : Int) (w : World) (h0 : 0 ≤ n) (h1 : n ≤ 99999) :
    Calls Tryd.prog 80 #[.int .i64 n] w fun e w' => e = .returned (.string ⟨(Lib.decDigits n.toNat).toArray⟩) ∧ Below w.heap.size w w' := by
  obtain ⟨u, rfl⟩ := Int.eq_ofNat_of_zero_le h0
  rw [Int.toNat_natCast]
  exact dec_any u u w (by omega) (by omega)
theorem dec_len (n : Int) (h0 : 0 ≤ n) (h1 : n ≤ 99999) : (Lib.decDigits n.toNat).length ≤ 21 := by
  have := Lib.itoa_length_le n (by omega) (by omega)
  unfold Lib.itoa at this
  rwa [if_neg (by omega)] at this
end Go.Proofs.YtfnhbdanfnpdeaaDoor
namespace Go.Proofs.YtfnhbdanfnpdeaaDoor
open Go.RowKit Go.Sort

/-- The letters of a point. -/
def wdL (p : P2) : List UInt8 := Lib.decDigits p.1.toNat ++ [44] ++ Lib.decDigits p.2.toNat
def wdB (p : P2) : ByteArray := ⟨(wdL p).toArray⟩
theorem wdB_eq (p : P2) : ByteArray.mk (Lib.decDigits p.1.toNat).toArray ++ ByteArray.mk #[44] ++ ByteArray.mk (Lib.decDigits p.2.toNat).toArray = wdB p := by
  have e : (ByteArray.mk #[44]) = ByteArray.mk ([44] : List UInt8).toArray := rfl
  rw [e, ByteArray.mk_append_mk, ByteArray.mk_append_mk]; rfl
theorem wdL_len {p : P2} (hp : ptB p.1 p.2 = true) : (wdL p).length ≤ 43 := by
  obtain ⟨a, b, c, d⟩ := (ptB_iff _ _).1 hp
  have l1 := dec_len p.1 (by omega) (by omega)
  have l2 := dec_len p.2 (by omega) (by omega)
  unfold wdL
  simp only [List.length_append, List.length_cons, List.length_nil]
  omega
set_option maxHeartbeats 1000000 in
theorem sPtText_ok (p : P2) (hp : ptB p.1 p.2 = true) (w : World) :
    Calls Tryd.prog 57 #[.agg #[.int .i64 p.1, .int .i64 p.2]] w fun e w' => e = .returned (.string (wdB p)) ∧ Below w.heap.size w w' := by
  obtain ⟨W, hW, BW, T⟩ : ∃ W, W = w.alloc (.cells #[.int .i64 p.1, .int .i64 p.2] 46) ∧ Below w.heap.size w W ∧ W.heap[w.heap.size]? = some (.cells #[.int .i64 p.1, .int .i64 p.2] 46) := ⟨_, rfl, (by repeat (first | exact bw_refl _ | assumption | apply bw_drewN | apply bw_drew | apply bw_alloc | refine bw_set ?_ (by simp) _)), heap_new _ _⟩
  obtain ⟨a, b, c, d⟩ := (ptB_iff _ _).1 hp
  have e1 : Hid (ByteArray.mk (Lib.decDigits p.1.toNat).toArray ++ ByteArray.mk #[44] ++ ByteArray.mk (Lib.decDigits p.2.toNat).toArray = wdB p) := wdB_eq p
  have l1 := dec_len p.1 (by omega) (by omega)
  have l2 := dec_len p.2 (by omega) (by omega)
  have C1 : Hid (∀ w, Calls Tryd.prog 80 #[.int .i64 p.1] w fun e w'' => e = .returned (.string ⟨(Lib.decDigits p.1.toNat).toArray⟩) ∧ Below w.heap.size w w'') := fun w => dec_int p.1 w (by omega) (by omega)
  have C2 : Hid (∀ w, Calls Tryd.prog 80 #[.int .i64 p.2] w fun e w'' => e = .returned (.string ⟨(Lib.decDigits p.2.toNat).toArray⟩) ∧ Below w.heap.size w w'') := fun w => dec_int p.2 w (by omega) (by omega)
  obtain ⟨t0, t1⟩ := reg_2 T
  obtain ⟨px, py⟩ := p
  dsimp only at *
  clear hp a b c d
  go_enter Tryd.func57, Tryd.ntmps57
  go_upto_region 1 with fail
  rw [← hW]
  clear hW
  refine wp_region_quiet_below (by kernel_rfl) (by kernel_rfl) ?_
  repeat (first | go_big_quiet_step (first | (go_at_call 80; with_reducible exact Calls.regrown_of (C1.out _)) | (go_at_call 80; with_reducible exact Calls.regrown_of (C2.out _))))
  refine wpQuiet_nil ?_
  intro _ hw'
  obtain ⟨⟨dq, osq⟩, hw''⟩ := hw'
  subst hw''
  have J := below_regrown W dq osq
  generalize grow (redrawn W dq) osq = v at J ⊢
  go_wp2_with fail
  go_ret
  exact ⟨ret_str e1.out, bw_trans BW J⟩
set_option maxHeartbeats 1000000 in
theorem ptText_ok (p : P2) (hp : ptB p.1 p.2 = true) (w : World) (hT : Tab w) :
    Calls Tryd.prog 61 #[.agg #[.int .i64 p.1, .int .i64 p.2]] w fun e w' => e = .returned (.string (wdB p)) ∧ Below w.heap.size w w' := by
  obtain ⟨W, hW, BW, T⟩ : ∃ W, W = w.alloc (.cells #[.int .i64 p.1, .int .i64 p.2] 46) ∧ Below w.heap.size w W ∧ W.heap[w.heap.size]? = some (.cells #[.int .i64 p.1, .int .i64 p.2] 46) := ⟨_, rfl, (by repeat (first | exact bw_refl _ | assumption | apply bw_drewN | apply bw_drew | apply bw_alloc | refine bw_set ?_ (by simp) _)), heap_new _ _⟩
  obtain ⟨a, b, c, d⟩ := (ptB_iff _ _).1 hp
  have e1 : Hid (ByteArray.mk (Lib.decDigits p.1.toNat).toArray ++ ByteArray.mk #[44] ++ ByteArray.mk (Lib.decDigits p.2.toNat).toArray = wdB p) := wdB_eq p
  have l1 := dec_len p.1 (by omega) (by omega)
  have l2 := dec_len p.2 (by omega) (by omega)
  have hTW := hT.below BW
  have C1 : Hid (∀ d' os, Calls Tryd.prog 84 #[.int .i64 p.1] (grow (redrawn W d') os) fun e w'' => e = .returned (.string ⟨(Lib.decDigits p.1.toNat).toArray⟩) ∧ Below (grow (redrawn W d') os).heap.size (grow (redrawn W d') os) w'') := fun d' os => itoa_any p.1 _ (by omega) (by omega) (hTW.below (below_regrown W d' os))
  have C2 : Hid (∀ d' os, Calls Tryd.prog 84 #[.int .i64 p.2] (grow (redrawn W d') os) fun e w'' => e = .returned (.string ⟨(Lib.decDigits p.2.toNat).toArray⟩) ∧ Below (grow (redrawn W d') os).heap.size (grow (redrawn W d') os) w'') := fun d' os => itoa_any p.2 _ (by omega) (by omega) (hTW.below (below_regrown W d' os))
  obtain ⟨t0, t1⟩ := reg_2 T
  obtain ⟨px, py⟩ := p
  dsimp only at *
  clear hp a b c d
  go_enter Tryd.func61, Tryd.ntmps61
  go_upto_region 1 with fail
  rw [← hW]
  clear hW
  refine wp_region_quiet_below (by kernel_rfl) (by kernel_rfl) ?_
  repeat (first | go_big_quiet_step (first | (go_at_call 84; with_reducible exact Calls.regrown_of (C1.out _ _)) | (go_at_call 84; with_reducible exact Calls.regrown_of (C2.out _ _))))
  refine wpQuiet_nil ?_
  intro _ hw'
  obtain ⟨⟨dq, osq⟩, hw''⟩ := hw'
  subst hw''
  have J := below_regrown W dq osq
  generalize grow (redrawn W dq) osq = v at J ⊢
  go_wp2_with fail
  go_ret
  exact ⟨ret_str e1.out, bw_trans BW J⟩
end Go.Proofs.YtfnhbdanfnpdeaaDoor
namespace Go.Proofs.YtfnhbdanfnpdeaaDoor
open Go.RowKit Go.Sort

/-- The letters of points, a blank between. -/
def txL (l : List P2) : List UInt8 := Lib.join (l.map wdL) [32]
def txB (l : List P2) : ByteArray := ⟨(txL l).toArray⟩
theorem txL_nil : txL [] = [] := rfl
theorem txL_one (p : P2) : txL [p] = wdL p := Lib.join_one _ _
theorem joinTail_snoc (sep x : List UInt8) (r : List (List UInt8)) : Lib.joinTail sep (r ++ [x]) = Lib.joinTail sep r ++ sep ++ x := by
  unfold Lib.joinTail; simp [List.append_assoc]
theorem txL_snoc {l : List P2} (h : l ≠ []) (p : P2) : txL (l ++ [p]) = txL l ++ [32] ++ wdL p := by
  cases l with
  | nil => exact absurd rfl h
  | cons a r =>
    unfold txL
    rw [List.cons_append, List.map_cons, List.map_append, List.map_cons, List.map_nil, Lib.join_cons, List.map_cons, Lib.join_cons, joinTail_snoc]
    simp [List.append_assoc]
theorem txB_nil : txB [] = ⟨#[]⟩ := rfl
theorem txB_one (p : P2) : txB [p] = wdB p := by unfold txB wdB; rw [txL_one]
theorem txB_snoc {l : List P2} (h : l ≠ []) (p : P2) : txB l ++ ByteArray.mk #[32] ++ wdB p = txB (l ++ [p]) := by
  have e : (ByteArray.mk #[32]) = ByteArray.mk ([32] : List UInt8).toArray := rfl
  unfold txB wdB
  rw [e, ByteArray.mk_append_mk, ByteArray.mk_append_mk, txL_snoc h]
theorem lens_le (l : List P2) (h : ∀ p ∈ l, ptB p.1 p.2 = true) : Lib.lens (l.map wdL) ≤ 43 * l.length := by
  induction l with
  | nil => simp [Lib.lens]
  | cons a r ih =>
    have h1 := wdL_len (h a (by simp))
    have h2 := ih fun p hp => h p (by simp [hp])
    simp only [Lib.lens, List.map_cons, List.sum_cons, List.length_cons] at h2 ⊢
    omega
theorem txL_len (l : List P2) (h : ∀ p ∈ l, ptB p.1 p.2 = true) : (txL l).length ≤ 44 * l.length := by
  cases l with
  | nil => simp [txL_nil]
  | cons a r =>
    have h2 := lens_le (a :: r) h
    unfold txL
    rw [List.map_cons, Lib.join_length, List.length_map]
    rw [List.map_cons] at h2
    simp only [List.length_cons, List.length_nil] at h2 ⊢
    omega
theorem txB_size (l : List P2) (h : ∀ p ∈ l, ptB p.1 p.2 = true) : (txB l).size ≤ 44 * l.length := by
  have := txL_len l h
  unfold txB ByteArray.size; simpa using this
theorem wdB_size {p : P2} (hp : ptB p.1 p.2 = true) : (wdB p).size ≤ 43 := by have := wdL_len hp; unfold wdB ByteArray.size; simpa using this
theorem words_at (l : List P2) (j : Nat) (x : ByteArray) (h : (l.map wdB)[j]? = some x) : (l.map fun p => Value.string (wdB p))[j]? = some (.string x) := by
  rw [List.getElem?_map] at h ⊢
  cases hj : l[j]? with
  | none => rw [hj] at h; cases h
  | some p => rw [hj] at h; simp at h ⊢; rw [h]
theorem words_join (l : List P2) : (Lib.join ((l.map wdB).map (·.data.toList)) (ByteArray.mk #[32]).data.toList) = txL l := by
  unfold txL
  rw [List.map_map]
  congr 1
end Go.Proofs.YtfnhbdanfnpdeaaDoor
namespace Go.Proofs.YtfnhbdanfnpdeaaDoor
open Go.RowKit Go.Sort

theorem Tryd.infoStr : (Tryd.prog.info? 9).map (fun i => (i.zero, i.size, i.bytes)) = some (some (.string ⟨#[]⟩), 1, 16) := by kernel_rfl
theorem take_snoc {l : List P2} {k : Nat} (h : k < l.length) : l.take (k + 1) = l.take k ++ [ptAt l k] := by
  rw [List.take_add_one]; simp [ptAt, h]
set_option maxRecDepth 100000 in
set_option maxHeartbeats 2000000 in
theorem sText_ok (a : Option Addr) (len cap : Nat) (l : List P2) (hlen : len ≤ 1000) (w : World) (hP : Pts w.heap.size w a len l) (hok : ∀ i, i < len → ptB (ptAt l i).1 (ptAt l i).2 = true) :
    Calls Tryd.prog 28 #[.slice a len cap] w fun e w' => e = .returned (.string (txB l)) ∧ Below w.heap.size w w' := by
  have HL : Hid (l.length = len) := hP.1
  have HK : Hid (∀ i, i < len → ptB (ptAt l i).1 (ptAt l i).2 = true) := hok
  have HA : Hid (∀ k, k ≤ len → (txB (l.take k)).size ≤ 44 * k) := fun k hk => by
    have := txB_size (l.take k) (fun p hp => by
      obtain ⟨j, hj, rfl⟩ := List.getElem_of_mem hp
      have hj' := hj
      rw [List.length_take] at hj'
      have := hok j (by omega)
      rw [List.getElem_take]
      unfold ptAt at this
      rwa [List.getElem?_eq_getElem (by omega), Option.getD_some] at this)
    rw [List.length_take] at this
    have h2 := HL.out
    omega
  have HS : Hid (∀ k, k < len → 0 < k → txB (l.take k) ++ ByteArray.mk #[32] ++ wdB (ptAt l k) = txB (l.take (k + 1))) := fun k hk h0 => by
    rw [take_snoc (by rw [HL.out]; exact hk)]
    exact txB_snoc (List.ne_nil_of_length_pos (by rw [List.length_take, HL.out]; omega)) _
  have H1 : Hid (0 < len → wdB (ptAt l 0) = txB (l.take 1)) := fun h0 => by
    rw [take_snoc (k := 0) (by rw [HL.out]; exact h0), List.take_zero, List.nil_append, txB_one]
  have H0 : Hid (txB (l.take 0) = ⟨#[]⟩) := rfl
  have HE : Hid (txB (l.take len) = txB l) := by change _ = _; rw [List.take_of_length_le (by rw [HL.out]; exact Nat.le_refl _)]
  clear hok
  go_enter Tryd.func28, Tryd.ntmps28
  go_wp2_with fail
  go_loopw [3, 4] (fun s i wr => ∃ k : Nat, k ≤ len ∧ i = .int .i64 k ∧ s = .string (txB (l.take k)) ∧ Below w.heap.size w wr) (fun _ i _ => len - (intOf i).toNat)
  case atStart => exact ⟨0, Nat.zero_le _, rfl, by rw [H0.out], bw_refl _⟩
  case round =>
    obtain ⟨k, hk, rfl, rfl, hnx⟩ := hrel
    by_cases hlt : k < len
    case neg =>
      obtain rfl : k = len := by omega
      rw [HE.out]
      go_wp2_with fail
      go_ret
      exact ⟨rfl, hnx⟩
    case pos =>
      rcases hP.2 with h0 | ⟨b, off, rfl, hbl, hcs⟩
      · omega
      obtain ⟨c0, c1⟩ := hcs k hlt
      have d0 := (hnx.cell (p := ⟨b, off + k * 2, none⟩) hbl).trans c0
      have d1 := (hnx.cell (p := ⟨b, off + k * 2 + 1, none⟩) hbl).trans c1
      have hpk := HK.out k hlt
      have hsz := HA.out k hk
      have hwz := wdB_size hpk
      clear hcs c0 c1
      rcases Nat.eq_zero_or_pos k with h0 | h0
      · subst h0
        have hst := H1.out hlt
        have e0 : Hid (txB (l.take 0) ++ wdB (ptAt l 0) = txB (l.take (0 + 1))) := by
          change _ = _
          rw [H0.out, Nat.zero_add, ← hst]
          apply ByteArray.ext
          simp
        clear hst
        rw [Nat.zero_mul, Nat.add_zero] at d0 d1
        go_wp2_with fail
        refine (sPtText_ok _ hpk _).mono ?_
        rintro e w1 ⟨rfl, J⟩
        generalize txB (l.take 0) = s0 at *
        go_wp2_with fail
        go_roundw
        case rel => exact ⟨1, by omega, by simp, by rw [e0.out], bw_trans hnx J⟩
        case measure => simp [intOf]; omega
      · have e0 := HS.out k hlt h0
        have HE0 : Hid (txB (l.take k) ++ ByteArray.mk #[32] ++ wdB (ptAt l k) = txB (l.take (k + 1))) := e0
        have i0 : (0 : Int) < (k : Int) := by omega
        clear e0
        go_wp2_with fail
        refine (sPtText_ok _ hpk _).mono ?_
        rintro e w1 ⟨rfl, J⟩
        go_wp2_with fail
        go_roundw
        case rel => exact ⟨k + 1, by omega, by simp, by rw [HE0.out], bw_trans hnx J⟩
        case measure => simp [intOf]; omega
set_option maxRecDepth 100000 in
set_option maxHeartbeats 2000000 in
theorem ptsText_ok (a : Option Addr) (len cap : Nat) (l : List P2) (hlen : len ≤ 1000) (w : World) (hT : Tab w) (hP : Pts w.heap.size w a len l) (hok : ∀ i, i < len → ptB (ptAt l i).1 (ptAt l i).2 = true) :
    Calls Tryd.prog 31 #[.slice a len cap] w fun e w' => e = .returned (.string (txB l)) ∧ Below w.heap.size w w' := by
  obtain ⟨i0, hi0, hz0, hz1, hz2⟩ := info_parts Tryd.infoStr
  have HL : Hid (l.length = len) := hP.1
  have HK : Hid (∀ i, i < len → ptB (ptAt l i).1 (ptAt l i).2 = true) := hok
  have HT : Hid (∀ k, k < len → l.take (k + 1) = l.take k ++ [ptAt l k]) := fun k hk => take_snoc (by rw [HL.out]; exact hk)
  have HE : Hid (l.take len = l) := by change _ = _; rw [List.take_of_length_le (by rw [HL.out]; exact Nat.le_refl _)]
  have hsize : (txL l).length ≤ 44 * l.length := txL_len l (fun p hp => by
      obtain ⟨j, hj, rfl⟩ := List.getElem_of_mem hp
      have := hok j (by rw [← HL.out]; exact hj)
      unfold ptAt at this
      rwa [List.getElem?_eq_getElem hj, Option.getD_some] at this)
  clear hok
  go_enter Tryd.func31, Tryd.ntmps31
  go_wp2_with (at_make; refine wpList_make_own _ rfl _ _ 58 rfl w.heap.size 9 i0 _ 1 Tryd.underlying58 hi0 hz0 hz1 .i64 .i64 _ len rfl rfl rfl (by rw [hz2]; omega) (by simp [maxLen]; omega) (Nat.le_refl _) ?_; intro w1 hown hgr)
  have hB1 : Below w.heap.size w w1 := (Below.refl _ _).grown hgr (Nat.le_refl _) (fun k e => by cases e)
  clear hgr
  go_loopw [3, 11] (fun s i wr => ∃ k : Nat, k ≤ len ∧ i = .int .i64 k ∧ s = .slice (some ⟨w.heap.size, 0, none⟩) k len ∧ wr.ownsRow w.heap.size 9 1 (.slice (some ⟨w.heap.size, 0, none⟩) k len) k ((l.take k).map fun p => Value.string (wdB p)) ∧ Below w.heap.size w wr) (fun _ i _ => len - (intOf i).toNat)
  case atStart => exact ⟨0, Nat.zero_le _, rfl, rfl, hown, hB1⟩
  case round =>
    obtain ⟨k, hk, rfl, rfl, hown, hnx⟩ := hrel
    by_cases hlt : k < len
    case neg =>
      obtain rfl : k = len := by omega
      rw [HE.out] at hown
      have hcells : ∀ (j : Nat) x, (l.map wdB)[j]? = some x → wr.cell? ⟨w.heap.size, 0 + j, none⟩ = some (.string x) := fun j x hx => by
        have h1 := words_at l j x hx
        have hj : j < k := by have := (List.getElem?_eq_some_iff.1 hx).1; rw [List.length_map, HL.out] at this; exact this
        rw [Nat.zero_add, hown.cellAt j (by omega)]; exact h1
      have hJ := shelf_strings_Join w.heap.size 0 k (l.map wdB) (ByteArray.mk #[32]) wr hcells (hown.lt _ rfl).2 (by rw [List.length_map, HL.out]; omega) (by rw [List.length_map, HL.out]; exact Nat.le_refl _) (by rw [words_join]; rw [HL.out] at hsize; omega)
      rw [words_join, List.length_map, HL.out] at hJ
      clear hown hcells
      go_wp2_with fail
      refine hJ.mono ?_
      rintro e w2 ⟨rfl, J⟩
      go_wp2_with fail
      go_ret
      exact ⟨rfl, bw_trans hnx J⟩
    case pos =>
      rcases hP.2 with h0 | ⟨b, off, rfl, hbl, hcs⟩
      · omega
      obtain ⟨c0, c1⟩ := hcs k hlt
      have d0 := (hnx.cell (p := ⟨b, off + k * 2, none⟩) hbl).trans c0
      have d1 := (hnx.cell (p := ⟨b, off + k * 2 + 1, none⟩) hbl).trans c1
      have hpk := HK.out k hlt
      have hsn : Hid (((l.take (k + 1)).map fun p => Value.string (wdB p)) = ((l.take k).map fun p => Value.string (wdB p)) ++ [.string (wdB (ptAt l k))]) := by
        change _ = _; rw [HT.out k hlt, List.map_append]; rfl
      clear hcs c0 c1
      obtain ⟨V, hV, BV, T⟩ : ∃ V, V = wr.alloc (.cells #[.int .i64 (ptAt l k).1, .int .i64 (ptAt l k).2] 46) ∧ Below wr.heap.size wr V ∧ V.heap[wr.heap.size]? = some (.cells #[.int .i64 (ptAt l k).1, .int .i64 (ptAt l k).2] 46) := ⟨_, rfl, (by repeat (first | exact bw_refl _ | assumption | apply bw_drewN | apply bw_drew | apply bw_alloc | refine bw_set ?_ (by simp) _)), heap_new _ _⟩
      have hownV : V.ownsRow w.heap.size 9 1 (.slice (some ⟨w.heap.size, 0, none⟩) k len) k ((l.take k).map fun p => Value.string (wdB p)) := by rw [hV]; exact hown.alloc _
      have hnV := bw_trans hnx BV
      go_upto_region 5 with fail
      rw [← hV]
      clear hV d0 d1 hown
      obtain ⟨t0, t1⟩ := blk_2 T
      go_wp2_with fail
      refine (ptText_ok _ hpk _ (hT.below hnV)).mono ?_
      rintro e w2 ⟨rfl, J⟩
      have hK2 := bw_trans hnV J
      have hown2 : w2.ownsRow w.heap.size 9 1 (.slice (some ⟨w.heap.size, 0, none⟩) k len) k ((l.take k).map fun p => Value.string (wdB p)) := hownV.kept (row := none) ⟨J.os, J.tape, J.output, J.size, fun j hj _ => J.block j hj⟩ (Classical.em _)
      have hz2' := hK2.size
      clear t0 t1
      go_wp2_with (at_builtin; refine wpList_append_fits _ rfl _ _ 58 rfl w.heap.size 9 i0 1 Tryd.underlying58 hi0 hz1 w.heap.size k len _ rfl (hown2.alloc _) ⟨w2.heap.size, 0, none⟩ 1 1 [.string (wdB (ptAt l k))] rfl rfl (World.news_of_block (cs := #[.string (wdB (ptAt l k))]) (t := 9) (fr := (0, 0)) (heap_alloc_new w2 _)) (by simp [Value.oneCell']) (by omega) ?_; intro w3 hown3 hgr3)
      go_roundw
      case rel => exact ⟨k + 1, by omega, by simp, rfl, by rw [hsn.out]; exact hown3, (hK2.alloc hz2' _).grown hgr3 (by simp; omega) (fun j e => by have e' : w.heap.size = j := Option.some.inj e; omega)⟩
      case measure => simp [intOf]; omega
end Go.Proofs.YtfnhbdanfnpdeaaDoor
namespace Go.Proofs.YtfnhbdanfnpdeaaDoor
open Go.RowKit Go.Sort

theorem okV_pt8 {pts : List P2} (h : okV pts = true) {i : Nat} (hi : i < pts.length) : ptB (ptAt pts i).1 (ptAt pts i).2 = true := (sgP_pt (((okV_iff pts).1 h).seg i hi)).1
/-- The text of a loop. -/
def ltB (l : List P2) : ByteArray := if okV l then txB l else ⟨#[]⟩
theorem loopText_any (a : Option Addr) (len cap : Nat) (l : List P2) (hlen : len ≤ 1048576) (w : World) (hT : Tab w) (hP : Pts w.heap.size w a len l) :
    Calls Tryd.prog 10 #[.slice a len cap] w fun e w' => e = .returned (.string (ltB l)) ∧ Below w.heap.size w w' := by
  have hO := ok_any a len cap l hlen w hP
  cases hv : okV l
  · have e1 : Hid (ltB l = ⟨#[]⟩) := by change _ = _; unfold ltB; rw [hv]; rfl
    rw [hv] at hO
    go_enter Tryd.func10, Tryd.ntmps10
    go_wp2_with fail
    refine hO.mono ?_
    rintro e w1 ⟨rfl, J⟩
    go_wp2_with fail
    go_ret
    exact ⟨ret_str e1.out.symm, J⟩
  · have e1 : Hid (ltB l = txB l) := by change _ = _; unfold ltB; rw [hv]; rfl
    have hok : ∀ i, i < len → ptB (ptAt l i).1 (ptAt l i).2 = true := fun i hi => okV_pt8 hv (by rw [hP.1]; exact hi)
    have h8 : len ≤ 8 := by have := (okV_pos hv).2; rw [hP.1] at this; exact this
    rw [hv] at hO
    go_enter Tryd.func10, Tryd.ntmps10
    go_wp2_with fail
    refine hO.mono ?_
    rintro e w1 ⟨rfl, J⟩
    go_wp2_with fail
    refine (ptsText_ok a len cap l (by omega) _ (hT.below J) ((hP.below J).grow J.size) hok).mono ?_
    rintro e w2 ⟨rfl, J2⟩
    go_wp2_with fail
    go_ret
    exact ⟨ret_str e1.out.symm, bw_trans J J2⟩
theorem sLoopText_any (a : Option Addr) (len cap : Nat) (l : List P2) (hlen : len ≤ 1048576) (w : World) (hP : Pts w.heap.size w a len l) :
    Calls Tryd.prog 8 #[.slice a len cap] w fun e w' => e = .returned (.string (ltB l)) ∧ Below w.heap.size w w' := by
  have hO := sOk_any a len cap l hlen w hP
  cases hv : okV l
  · have e1 : Hid (ltB l = ⟨#[]⟩) := by change _ = _; unfold ltB; rw [hv]; rfl
    rw [hv] at hO
    go_enter Tryd.func8, Tryd.ntmps8
    go_wp2_with fail
    refine hO.mono ?_
    rintro e w1 ⟨rfl, J⟩
    go_wp2_with fail
    go_ret
    exact ⟨ret_str e1.out.symm, J⟩
  · have e1 : Hid (ltB l = txB l) := by change _ = _; unfold ltB; rw [hv]; rfl
    have hok : ∀ i, i < len → ptB (ptAt l i).1 (ptAt l i).2 = true := fun i hi => okV_pt8 hv (by rw [hP.1]; exact hi)
    have h8 : len ≤ 8 := by have := (okV_pos hv).2; rw [hP.1] at this; exact this
    rw [hv] at hO
    go_enter Tryd.func8, Tryd.ntmps8
    go_wp2_with fail
    refine hO.mono ?_
    rintro e w1 ⟨rfl, J⟩
    go_wp2_with fail
    refine (sText_ok a len cap l (by omega) _ ((hP.below J).grow J.size) hok).mono ?_
    rintro e w2 ⟨rfl, J2⟩
    go_wp2_with fail
    go_ret
    exact ⟨ret_str e1.out.symm, bw_trans J J2⟩
set_option maxRecDepth 100000 in
set_option maxHeartbeats 2000000 in
theorem exLoopText_walk (W : World) (a : Option Addr) (len cap : Nat) (l : List P2) (hC : Came W a len cap l) (hT : Tab W) :
    Calls Tryd.prog 3 #[.slice a len cap] W fun e w' => e = .returned (.bool true) ∧ Below W.heap.size W w' := by
  have hm := hC.len.2
  have hl := hC.len.1
  have hP := hC.pts
  clear hC
  by_cases hlen : (1048576 : Int) < (len : Int)
  · have hz : ∀ w, Calls Tryd.prog 7 #[.slice a len cap, .int .i64 1048576] w fun e w' => e = .returned (.int .i64 (-1)) ∧ w' = w := fun w => by
      have := sz_any a len cap 1048576 (by omega) (by omega) hm w; rwa [if_pos hlen] at this
    go_enter Tryd.func3, Tryd.ntmps3
    go_wp2_with (go_at_call 7; refine (hz _).mono ?_; rintro e w' ⟨rfl, rfl⟩)
    go_ret
    exact ⟨rfl, (by repeat (first | exact bw_refl _ | assumption | apply bw_drewN | apply bw_drew | apply bw_alloc | refine bw_set ?_ (by simp) _))⟩
  · have hz : ∀ w, Calls Tryd.prog 7 #[.slice a len cap, .int .i64 1048576] w fun e w' => e = .returned (.int .i64 (1048576 - len)) ∧ w' = w := fun w => by
      have := sz_any a len cap 1048576 (by omega) (by omega) hm w; rwa [if_neg hlen] at this
    have hn : len ≤ 1048576 := by omega
    have hnn : ¬ (1048576 - (len : Int) < 0) := by omega
    go_enter Tryd.func3, Tryd.ntmps3
    go_wp2_with fail
    refine (hz _).mono ?_
    rintro e w' ⟨rfl, rfl⟩
    go_wp2_with fail
    refine (toPts_any a len cap l _ hP hn).mono ?_
    rintro e w1 ⟨g1, rfl, hg1, hb1, J1⟩
    go_wp2_with fail
    refine (sLoopText_any _ len len l hn _ (hb1.pts hl)).mono ?_
    rintro e w2 ⟨rfl, J2⟩
    have K2 := bw_trans J1 J2
    go_wp2_with fail
    refine (toPts_any a len cap l _ ((hP.below K2).grow K2.size) hn).mono ?_
    rintro e w3 ⟨g3, rfl, hg3, hb3, J3⟩
    have K3 := bw_trans K2 J3
    go_wp2_with fail
    refine (loopText_any _ len len l hn _ (hT.below K3) (hb3.pts hl)).mono ?_
    rintro e w4 ⟨rfl, J4⟩
    have K4 := bw_trans K3 J4
    go_wp2_with fail
    refine (toPts_any a len cap l _ ((hP.below K4).grow K4.size) hn).mono ?_
    rintro e w5 ⟨g5, rfl, hg5, hb5, J5⟩
    have K5 := bw_trans K4 J5
    go_wp2_with fail
    refine (eqPts_same _ _ len _ _ l _ (((hb3.below J4).below J5).pts hl) (hb5.pts hl) hn).mono ?_
    rintro e w6 ⟨rfl, J6⟩
    go_wp2_with fail
    go_ret
    exact ⟨rfl, bw_trans K5 J6⟩
end Go.Proofs.YtfnhbdanfnpdeaaDoor
namespace Go.Proofs.YtfnhbdanfnpdeaaDoor
open Go.RowKit Go.Sort

set_option maxRecDepth 100000 in
set_option maxHeartbeats 4000000 in
theorem boardIn_any (b : Nat) (o : RingT) (hs : List RingT) (p : P2) (w : World) (hR : RingL w.heap.size w (some ⟨b, 0, none⟩) (o :: hs)) (hok : ((o :: hs).all fun x => okV x.pts) = true) (hp : ptB p.1 p.2 = true) :
    Calls Tryd.prog 47 #[.pointer (some ⟨b, 0, none⟩), .agg #[.int .i64 p.1, .int .i64 p.2]] w fun e W' => e = .returned (.int .i64 (plI o.pts (hs.map RingT.pts) p)) ∧ Below w.heap.size w W' := by
  obtain ⟨b0, q0, t0, e0, ob, ol, oP, hR⟩ := hR
  cases e0
  rw [List.all_cons, Bool.and_eq_true] at hok
  have B0 : Below w.heap.size w (w.alloc (.cells #[.int .i64 p.1, .int .i64 p.2] 46)) := (by repeat (first | exact bw_refl _ | assumption | apply bw_drewN | apply bw_drew | apply bw_alloc | refine bw_set ?_ (by simp) _))
  obtain ⟨W, hW, BW, T⟩ : ∃ W, W = w.alloc (.cells #[.int .i64 p.1, .int .i64 p.2] 46) ∧ Below w.heap.size w W ∧ W.heap[w.heap.size]? = some (.cells #[.int .i64 p.1, .int .i64 p.2] 46) := ⟨_, rfl, (by repeat (first | exact bw_refl _ | assumption | apply bw_drewN | apply bw_drew | apply bw_alloc | refine bw_set ?_ (by simp) _)), heap_new _ _⟩
  have hpl : Hid (plI o.pts (hs.map RingT.pts) p = hs.foldl (fun s x => min s (-(inI x.pts p))) (inI o.pts p)) := by change _ = _; unfold plI; rw [List.foldl_map]
  have hall : Hid (∀ x ∈ hs, okV x.pts = true) := List.all_eq_true.1 hok.2
  have HW : Hid (∀ d os, Calls Tryd.prog 52 #[.slice o.a o.len o.cap, .agg #[.int .i64 p.1, .int .i64 p.2]] (grow (redrawn W d) os) fun e W' => e = .returned (.int .i64 (inI o.pts p)) ∧ Below (grow (redrawn W d) os).heap.size (grow (redrawn W d) os) W') := fun d os =>
    where_any o.a o.len o.cap o.pts p ol hok.1 hp _ ((oP.below (bw_trans BW (below_regrown W d os))).grow (bw_trans BW (below_regrown W d os)).size)
  obtain ⟨o0, o1, _, _⟩ := lies2 (ob.below BW)
  have o0' := cell_regrown o0
  obtain ⟨t0', t1'⟩ := reg_2 T
  have h3 := inI_3 o.pts p
  have hR1 := (hR.below BW (Nat.le_refl _)).grow BW.size
  have ob1 := ob.below BW
  clear o0 o1 hok
  generalize inI o.pts p = u0 at *
  go_enter Tryd.func47, Tryd.ntmps47
  go_upto_region 1 with fail
  rw [← hW]
  clear hW
  refine wp_region_quiet_below (by kernel_rfl) (by kernel_rfl) ?_
  repeat (first | go_big_quiet_step (first | (go_at_call 52; with_reducible exact Calls.regrown_of (HW.out _ _))))
  refine wpQuiet_nil ?_
  intro _ hw'
  obtain ⟨⟨dq, osq⟩, hw''⟩ := hw'
  subst hw''
  have J := below_regrown W dq osq
  generalize grow (redrawn W dq) osq = v at J ⊢
  obtain ⟨o0, o1, _, _⟩ := lies2 (ob1.below J)
  have K := bw_trans BW J
  replace T := keep J T
  have hR2 := (hR1.below J (Nat.le_refl _)).grow J.size
  clear HW t0' t1' o0' hR1 hR
  go_wp2_with fail
  go_loopw [5, 6] (fun s q wr => ∃ (u : Int) (q' : Option Addr) (rest : List RingT), s = .int .i64 u ∧ q = .pointer q' ∧ (-1 ≤ u ∧ u ≤ 1) ∧ RingL wr.heap.size wr q' rest ∧ (∀ x ∈ rest, okV x.pts = true) ∧ hs.foldl (fun s x => min s (-(inI x.pts p))) u0 = rest.foldl (fun s x => min s (-(inI x.pts p))) u ∧ Below v.heap.size v wr) (fun _ q wr => ringsLeft wr q)
  case atStart => exact ⟨u0, q0, hs, rfl, rfl, by omega, hR2, hall.out, rfl, bw_refl _⟩
  case round =>
    obtain ⟨u, q', rest, rfl, rfl, hu, hL, hak, he, hnx⟩ := hrel
    cases rest with
    | nil =>
      obtain rfl : q' = none := hL
      have e1 : Hid (plI o.pts (hs.map RingT.pts) p = u) := by change _ = _; rw [hpl.out, he]; rfl
      clear he
      go_wp2_with fail
      go_ret
      exact ⟨ret_int e1.out.symm, bw_trans K hnx⟩
    | cons y ys =>
      have hL' := hL
      obtain ⟨b1, q1, t1, rfl, hb, hlen, hP, hr⟩ := hL
      obtain ⟨d0, d1, _, _⟩ := lies2 hb
      have d0' := cell_regrown d0
      have d1' := cell_regrown d1
      obtain ⟨t0', t1'⟩ := reg_2 (keep hnx T)
      have y3 := inI_3 y.pts p
      have HW : Hid (∀ d os, Calls Tryd.prog 52 #[.slice y.a y.len y.cap, .agg #[.int .i64 p.1, .int .i64 p.2]] (grow (redrawn wr d) os) fun e W' => e = .returned (.int .i64 (inI y.pts p)) ∧ Below (grow (redrawn wr d) os).heap.size (grow (redrawn wr d) os) W') := fun d os =>
        where_any y.a y.len y.cap y.pts p hlen (hak y (by simp)) hp _ ((hP.below (below_regrown wr d os)).grow (below_regrown wr d os).size)
      have he1 : Hid (hs.foldl (fun s x => min s (-(inI x.pts p))) u0 = ys.foldl (fun s x => min s (-(inI x.pts p))) (min u (-(inI y.pts p)))) := he
      clear he
      generalize inI y.pts p = u1 at *
      have nu : IntKind.i64.wrap (-u1) = -u1 := wrap_small (by omega) (by omega)
      clear d0 d1
      by_cases hm : -u1 < u
      · have hmin : min u (-u1) = -u1 := by omega
        go_wp2_with fail
        refine wp_region_quiet_below (by kernel_rfl) (by kernel_rfl) ?_
        repeat (first | go_big_quiet_step (first | (go_at_call 52; with_reducible exact Calls.regrown_of (HW.out _ _))))
        refine wpQuiet_nil ?_
        intro _ hw'
        obtain ⟨⟨dq, osq⟩, hw''⟩ := hw'
        subst hw''
        have J := below_regrown wr dq osq
        generalize grow (redrawn wr dq) osq = v2 at J ⊢
        obtain ⟨d0, d1, _, _⟩ := lies2 (hb.below J)
        go_wp2_with fail
        go_roundw
        case rel => exact ⟨-u1, q1, ys, rfl, rfl, by omega, (hr.below J (Nat.le_refl _)).grow J.size, fun x hx => hak x (by simp [hx]), by rw [he1.out, hmin], bw_trans hnx J⟩
        case measure => rw [ringsLeft_eq (hr.below J (Nat.le_refl _)), ringsLeft_eq hL']; simp
      · have hmin : min u (-u1) = u := by omega
        go_wp2_with fail
        refine wp_region_quiet_below (by kernel_rfl) (by kernel_rfl) ?_
        repeat (first | go_big_quiet_step (first | (go_at_call 52; with_reducible exact Calls.regrown_of (HW.out _ _))))
        refine wpQuiet_nil ?_
        intro _ hw'
        obtain ⟨⟨dq, osq⟩, hw''⟩ := hw'
        subst hw''
        have J := below_regrown wr dq osq
        generalize grow (redrawn wr dq) osq = v2 at J ⊢
        obtain ⟨d0, d1, _, _⟩ := lies2 (hb.below J)
        go_wp2_with fail
        go_roundw
        case rel => exact ⟨u, q1, ys, rfl, rfl, by omega, (hr.below J (Nat.le_refl _)).grow J.size, fun x hx => hak x (by simp [hx]), by rw [he1.out, hmin], bw_trans hnx J⟩
        case measure => rw [ringsLeft_eq (hr.below J (Nat.le_refl _)), ringsLeft_eq hL']; simp
set_option maxRecDepth 100000 in
set_option maxHeartbeats 1000000 in
theorem plateIn_any (a ah : Option Addr) (la ca nh ch : Nat) (o : List P2) (hs : List (List P2)) (p : P2) (w : World) (h : Plt w a la ah nh o hs) :
    Calls Tryd.prog 22 #[.agg #[.slice a la ca, .slice ah nh ch], .agg #[.int .i64 p.1, .int .i64 p.2]] w fun e W' => e = .returned (.int .i64 (plInV o hs p)) ∧ Below w.heap.size w W' := by
  obtain ⟨W, hW, BW, TP, T⟩ := boxes2 w (.cells #[.slice a la ca, .slice ah nh ch] 40) (.cells #[.int .i64 p.1, .int .i64 p.2] 46)
  have hh := h.below BW
  obtain ⟨t0, t1⟩ := blk_2 TP
  have zP := blk_lt TP
  cases hv : plV o hs
  · have e1 : Hid (plInV o hs p = -1) := by change _ = _; unfold plInV; rw [hv]; rfl
    go_enter Tryd.func22, Tryd.ntmps22
    go_upto_region 1 with fail
    rw [← hW]
    clear hW
    go_wp2_with fail
    refine (board_any a ah la ca nh ch o hs _ hh).mono ?_
    rw [hv]
    rintro e w1 ⟨q, rfl, J, _⟩
    go_wp2_with fail
    go_ret
    exact ⟨ret_int e1.out.symm, bw_trans BW J⟩
  cases hp : ptB p.1 p.2
  · have e1 : Hid (plInV o hs p = -1) := by change _ = _; unfold plInV; rw [hv, hp]; rfl
    go_enter Tryd.func22, Tryd.ntmps22
    go_upto_region 1 with fail
    rw [← hW]
    clear hW
    go_wp2_with fail
    refine (board_any a ah la ca nh ch o hs _ hh).mono ?_
    rw [hv]
    rintro e w1 ⟨q, rfl, J, _⟩
    replace T := keep J T
    clear t0 t1
    obtain ⟨t0, t1⟩ := blk_2 T
    go_wp2_with fail
    refine (pt_raw p _).mono ?_
    rw [hp]
    rintro e w2 ⟨rfl, J2⟩
    go_wp2_with fail
    go_ret
    exact ⟨ret_int e1.out.symm, bw_trans (bw_trans BW J) J2⟩
  · have e1 : Hid (plInV o hs p = plI o hs p) := by change _ = _; unfold plInV; rw [hv, hp]; rfl
    have L := (plV_iff o hs).1 hv
    go_enter Tryd.func22, Tryd.ntmps22
    go_upto_region 1 with fail
    rw [← hW]
    clear hW
    go_wp2_with fail
    refine (board_any a ah la ca nh ch o hs _ hh).mono ?_
    rintro e w1 ⟨q, rfl, J, hR⟩
    obtain ⟨b, xs, rfl, hR, hx⟩ := hR hv
    rw [hv]
    replace T := keep J T
    clear t0 t1
    obtain ⟨t0, t1⟩ := blk_2 T
    go_wp2_with fail
    refine (pt_raw p _).mono ?_
    rw [hp]
    rintro e w2 ⟨rfl, J2⟩
    replace T := keep J2 T
    clear t0 t1
    obtain ⟨t0, t1⟩ := blk_2 T
    have hall : ((⟨a, la, ca, o⟩ :: xs : List RingT).all fun x => okV x.pts) = true := by
      rw [List.all_eq_true]
      intro x hx'
      rcases List.mem_cons.1 hx' with e | e
      · subst e; exact L.out
      · exact L.ok _ (by rw [← hx]; exact List.mem_map.2 ⟨x, e, rfl⟩)
    go_wp2_with fail
    refine (boardIn_any b ⟨a, la, ca, o⟩ xs p w2 ((hR.below J2 (Nat.le_refl _)).grow J2.size) hall hp).mono ?_
    rw [hx]
    rintro e w3 ⟨rfl, J3⟩
    go_wp2_with fail
    go_ret
    exact ⟨ret_int e1.out.symm, bw_trans (bw_trans (bw_trans BW J) J2) J3⟩
end Go.Proofs.YtfnhbdanfnpdeaaDoor
namespace Go.Proofs.YtfnhbdanfnpdeaaDoor
open Go.RowKit Go.Sort

/-- The letters of loops, a line each. -/
def ptxL (ls : List (List P2)) : List UInt8 := ls.flatMap fun l => txL l ++ [10]
theorem ptxL_snoc (ls : List (List P2)) (l : List P2) : ptxL (ls ++ [l]) = ptxL ls ++ txL l ++ [10] := by unfold ptxL; simp [List.append_assoc]
/-- The text of a plate. -/
def ptB' (o : List P2) (hs : List (List P2)) : ByteArray := if plV o hs then ⟨(ptxL (o :: hs)).toArray⟩ else ⟨#[]⟩
theorem tx_short {l : List P2} (h : okV l = true) : (txL l).length ≤ 352 := by
  have h8 := (okV_pos h).2
  have := txL_len l (fun p hp => by
      obtain ⟨j, hj, rfl⟩ := List.getElem_of_mem hp
      have := okV_pt8 h hj
      unfold ptAt at this
      rwa [List.getElem?_eq_getElem hj, Option.getD_some] at this)
  omega
theorem cells_app (a b : List UInt8) : Lib.byteCells (a ++ b) = Lib.byteCells a ++ Lib.byteCells b := by unfold Lib.byteCells; rw [List.map_append]
theorem cells_len (a : List UInt8) : (Lib.byteCells a).length = a.length := by unfold Lib.byteCells; rw [List.length_map]
set_option maxRecDepth 100000 in
set_option maxHeartbeats 4000000 in
theorem plateText_any (a ah : Option Addr) (la ca nh ch : Nat) (o : List P2) (hs : List (List P2)) (w : World) (hT : Tab w) (h : Plt w a la ah nh o hs) :
    Calls Tryd.prog 19 #[.agg #[.slice a la ca, .slice ah nh ch]] w fun e W' => e = .returned (.string (ptB' o hs)) ∧ Below w.heap.size w W' := by
  obtain ⟨W, hW, BW, TP⟩ : ∃ W, W = w.alloc (.cells #[.slice a la ca, .slice ah nh ch] 40) ∧ Below w.heap.size w W ∧ W.heap[w.heap.size]? = some (.cells #[.slice a la ca, .slice ah nh ch] 40 (0, 0)) := ⟨_, rfl, (by repeat (first | exact bw_refl _ | assumption | apply bw_drewN | apply bw_drew | apply bw_alloc | refine bw_set ?_ (by simp) _)), heap_new _ _⟩
  have zB := BW.size
  have hb := board_any0 a ah la ca nh ch o hs w.heap.size W zB (h.base BW)
  obtain ⟨t0, t1⟩ := blk_2 TP
  cases hv : plV o hs
  · have e1 : Hid (ptB' o hs = ⟨#[]⟩) := by change _ = _; unfold ptB'; rw [hv]; rfl
    rw [hv] at hb
    go_enter Tryd.func19, Tryd.ntmps19
    go_upto_region 1 with fail
    rw [← hW]
    clear hW
    go_wp2_with fail
    refine hb.mono ?_
    rintro e w1 ⟨q, rfl, J, -⟩
    go_wp2_with fail
    go_ret
    exact ⟨ret_str e1.out.symm, bw_trans BW J⟩
  have L := (plV_iff _ _).1 hv
  have e1 : Hid (ptB' o hs = ⟨(ptxL (o :: hs)).toArray⟩) := by change _ = _; unfold ptB'; rw [hv]; rfl
  rw [hv] at hb
  go_enter Tryd.func19, Tryd.ntmps19
  go_upto_region 1 with fail
  rw [← hW]
  clear hW
  go_wp2_with fail
  refine hb.mono ?_
  rintro e v0 ⟨q, rfl, J, hR⟩
  obtain ⟨b, xs, rfl, hR, hx⟩ := hR (by first | exact hv | trivial)
  have K := bw_trans BW J
  have hall : Hid (∀ x ∈ (⟨a, la, ca, o⟩ :: xs : List RingT), okV x.pts = true) := fun x hx' => by
    rcases List.mem_cons.1 hx' with e | e
    · subst e; exact L.out
    · exact L.ok _ (by rw [← hx]; exact List.mem_map.2 ⟨x, e, rfl⟩)
  have hl3 : xs.length ≤ 2 := by have := L.len; rw [← hx, List.length_map] at this; exact this
  have hmap : Hid ((⟨a, la, ca, o⟩ :: xs : List RingT).map RingT.pts = o :: hs) := by change _ = _; rw [List.map_cons, hx]
  have hTv := hT.below K
  have zv := K.size
  have hnew := heap_new v0 (.cells #[.pointer none, .slice none 0 0] 69)
  have hI : Lib.IsBuilderF 69 5 v0.heap.size v0.heap.size (Lib.byteCells (ptxL [])) (v0.alloc (.cells #[.pointer none, .slice none 0 0] 69)) :=
    .inl ⟨Nat.le_refl _, .slice none 0 0, hnew, World.ownsRowF_nil _ _ _ _, by simp [Value.ownBlock]⟩
  have hB0 : Below v0.heap.size v0 (v0.alloc (.cells #[.pointer none, .slice none 0 0] 69)) := (by repeat (first | exact bw_refl _ | assumption | apply bw_drewN | apply bw_drew | apply bw_alloc | refine bw_set ?_ (by simp) _))
  have hRb := hR
  obtain ⟨b0, q0, tt0, e0, ob, ol, oP, hR'⟩ := hRb
  cases e0
  clear hb L hx hnew t0 t1 TP ob ol oP hR' h
  go_wp2_with fail
  obtain ⟨v1, hv1⟩ : ∃ v1, v0.alloc (.cells #[.pointer none, .slice none 0 0] 69) = v1 := ⟨_, rfl⟩
  rw [hv1] at hI hB0 ⊢
  clear hv1
  go_loopw [6] (fun q wr => ∃ (q' : Option Addr) (rest : List RingT) (dn : List (List P2)), q = .pointer q' ∧ dn ++ rest.map RingT.pts = o :: hs ∧ dn.length + rest.length ≤ 3 ∧ (ptxL dn).length ≤ 353 * dn.length ∧ RingL w.heap.size v0 q' rest ∧ (∀ x ∈ rest, okV x.pts = true) ∧ Lib.IsBuilderF 69 5 v0.heap.size v0.heap.size (Lib.byteCells (ptxL dn)) wr ∧ Below v0.heap.size v0 wr) (fun q wr => ringsLeft wr q)
  case atStart => exact ⟨_, ⟨a, la, ca, o⟩ :: xs, [], rfl, by rw [List.nil_append]; exact hmap.out, by simp; omega, by simp [ptxL], hR, hall.out, hI, hB0⟩
  case round =>
    obtain ⟨q', rest, dn, rfl, hde, hdl, hpl, hL, hak, hIB, hnx⟩ := hrel
    have hLw := hL.below hnx zv
    have zw := hnx.size
    cases rest with
    | nil =>
      obtain rfl : q' = none := hL
      have hS := shelf_Builder_String_any_k v0.heap.size v0.heap.size (ptxL dn) wr hIB zw
      rw [List.map_nil, List.append_nil] at hde
      have e2 : Hid (ptB' o hs = ⟨(ptxL dn).toArray⟩) := by change _ = _; rw [e1.out, hde]
      clear hIB hLw hde hdl hpl
      go_wp2_with fail
      refine hS.mono ?_
      rintro e w2 ⟨rfl, -, J2, -⟩
      go_wp2_with fail
      go_ret
      exact ⟨ret_str e2.out.symm, bw_trans K (hnx.trans J2)⟩
    | cons y ys =>
      have hL' := hLw
      have hLv := hL
      obtain ⟨b1, q1, t1, rfl, hb, hlen, hP, hr⟩ := hL
      have hbw := hb.below hnx
      obtain ⟨d0, d1, _, _⟩ := lies2 hbw
      have hoy := hak y (by simp)
      have h8 := (okV_pos hoy).2
      have hsh := tx_short hoy
      have hyl : y.pts.length = y.len := hP.1
      have hPw := (hP.below (hnx.mono zv)).grow (show w.heap.size ≤ wr.heap.size by omega)
      have hok : ∀ i, i < y.len → ptB (ptAt y.pts i).1 (ptAt y.pts i).2 = true := fun i hi => okV_pt8 hoy (by rw [hyl]; exact hi)
      have hPT := ptsText_ok y.a y.len y.cap y.pts (by omega) wr (hTv.below hnx) hPw hok
      have hdl' : dn.length ≤ 2 := by simp only [List.length_cons] at hdl; omega
      go_wp2_with fail
      refine hPT.mono ?_
      rintro e w2 ⟨rfl, J2⟩
      have hI2 := hIB.below J2
      have z2 := J2.size
      have hsz : (txB y.pts).size ≤ 352 := by have := txB_size y.pts; unfold txB ByteArray.size; simpa using hsh
      have hW := shelf_Builder_WriteString v0.heap.size v0.heap.size (Lib.byteCells (ptxL dn)) (txB y.pts) w2 hI2 (by rw [cells_len]; omega) (by omega)
      clear hPT hI2 hIB d0 d1
      go_wp2_with fail
      refine hW.mono ?_
      rintro e w3 ⟨rfl, hA3, J3, -⟩
      have z3 := J3.size
      have hI3 : Lib.IsBuilderF 69 5 v0.heap.size v0.heap.size (Lib.byteCells (ptxL dn ++ txL y.pts)) w3 := by rw [cells_app]; exact .inr hA3
      have hW3 := shelf_Builder_WriteByte v0.heap.size v0.heap.size (Lib.byteCells (ptxL dn ++ txL y.pts)) 10 w3 hI3 (by rw [cells_len, List.length_append]; omega) (by omega)
      clear hW hA3 hI3
      go_wp2_with fail
      refine hW3.mono ?_
      rintro e w4 ⟨rfl, hA4, J4, -⟩
      have hI4 : Lib.IsBuilderF 69 5 v0.heap.size v0.heap.size (Lib.byteCells (ptxL (dn ++ [y.pts]))) w4 := by rw [ptxL_snoc, cells_app]; exact .inr hA4
      have hn4 : Below v0.heap.size v0 w4 := (((hnx.trans (J2.mono zw)).trans J3).trans J4)
      obtain ⟨d0, d1, _, _⟩ := lies2 (hb.below hn4)
      clear hW3 hA4
      go_wp2_with fail
      go_roundw
      case rel => exact ⟨q1, ys, dn ++ [y.pts], rfl, by rw [← hde]; simp, by simp only [List.length_cons, List.length_append, List.length_nil] at hdl ⊢; omega, by rw [ptxL_snoc]; simp only [List.length_append, List.length_cons, List.length_nil]; omega, hr, fun x hx => hak x (by simp [hx]), hI4, hn4⟩
      case measure => rw [ringsLeft_eq (hr.below hn4 zv), ringsLeft_eq hL']; simp
set_option maxRecDepth 100000 in
set_option maxHeartbeats 4000000 in
theorem sPlateText_any (a ah : Option Addr) (la ca nh ch : Nat) (o : List P2) (hs : List (List P2)) (w : World) (h : Plt w a la ah nh o hs) :
    Calls Tryd.prog 17 #[.agg #[.slice a la ca, .slice ah nh ch]] w fun e W' => e = .returned (.string (ptB' o hs)) ∧ Below w.heap.size w W' := by
  obtain ⟨W, hW, BW, TP⟩ : ∃ W, W = w.alloc (.cells #[.slice a la ca, .slice ah nh ch] 40) ∧ Below w.heap.size w W ∧ W.heap[w.heap.size]? = some (.cells #[.slice a la ca, .slice ah nh ch] 40 (0, 0)) := ⟨_, rfl, (by repeat (first | exact bw_refl _ | assumption | apply bw_drewN | apply bw_drew | apply bw_alloc | refine bw_set ?_ (by simp) _)), heap_new _ _⟩
  have zB := BW.size
  have hh := h.below BW
  have hOk := sPlateOk_any a ah la ca nh ch o hs W hh
  obtain ⟨t0, t1⟩ := blk_2 TP
  cases hv : plV o hs
  · have e1 : Hid (ptB' o hs = ⟨#[]⟩) := by change _ = _; unfold ptB'; rw [hv]; rfl
    rw [hv] at hOk
    go_enter Tryd.func17, Tryd.ntmps17
    go_upto_region 1 with fail
    rw [← hW]
    clear hW
    go_wp2_with fail
    refine hOk.mono ?_
    rintro e w1 ⟨rfl, J⟩
    go_wp2_with fail
    go_ret
    exact ⟨ret_str e1.out.symm, bw_trans BW J⟩
  have hPV := (plV_iff _ _).1 hv
  have e1 : Hid (ptB' o hs = ⟨(ptxL (o :: hs)).toArray⟩) := by change _ = _; unfold ptB'; rw [hv]; rfl
  rw [hv] at hOk
  have hoo : okV o = true := hPV.out
  have HO : Hid (∀ j, j < nh → okV (hs[j]?.getD []) = true) := by
    obtain ⟨_, _, hlen, _⟩ := hh
    exact fun j hj => hPV.ok _ (by rw [List.getElem?_eq_getElem (by omega), Option.getD_some]; exact List.getElem_mem _)
  obtain ⟨hla, hP, hlen, A, L, C, hS, hH⟩ := hh
  have HL : Hid (hs.length = nh) := hlen
  have hnh : nh ≤ 2 := by have := hPV.len; omega
  have HS : Hid (∀ k, k < nh → ptxL (o :: hs.take (k + 1)) = ptxL (o :: hs.take k) ++ txL (hs[k]?.getD []) ++ [10]) := fun k hk => by
    have e : o :: hs.take (k + 1) = (o :: hs.take k) ++ [hs[k]?.getD []] := by
      rw [List.take_add_one, List.getElem?_eq_getElem (by omega), Option.getD_some]; simp
    rw [e, ptxL_snoc]
  have H0 : Hid (ptxL (o :: hs.take 0) = txL o ++ [10]) := by change _ = _; rw [List.take_zero]; simp [ptxL]
  have HE : Hid (hs.take nh = hs) := by change _ = _; rw [← hlen, List.take_length]
  have h8 := (okV_pos hoo).2
  have hol : o.length = la := hP.1
  have ho2 : ∀ i, i < la → ptB (ptAt o i).1 (ptAt o i).2 = true := fun i hi => okV_pt8 hoo (by rw [hol]; exact hi)
  have hsh := tx_short hoo
  clear hlen hPV h
  go_enter Tryd.func17, Tryd.ntmps17
  go_upto_region 1 with fail
  rw [← hW]
  clear hW
  go_wp2_with fail
  refine hOk.mono ?_
  rintro e w1 ⟨rfl, J⟩
  have K := bw_trans BW J
  replace TP := keep J TP
  replace hP := (hP.below J).grow J.size
  replace hS := (hS.below J).grow J.size
  replace hH : ∀ j, j < nh → L j ≤ 1048576 ∧ Pts w1.heap.size w1 (A j) (L j) (hs[j]?.getD []) := fun j hj => ⟨(hH j hj).1, ((hH j hj).2.below J).grow J.size⟩
  clear t0 t1 hOk J
  obtain ⟨t0, t1⟩ := blk_2 TP
  have hsz : (txB o).size ≤ 352 := by unfold txB ByteArray.size; simpa using hsh
  have hcat : ∀ l : List UInt8, ByteArray.mk l.toArray ++ ByteArray.mk #[10] = ⟨(l ++ [10]).toArray⟩ := fun l => by
    have e : (ByteArray.mk #[10]) = ByteArray.mk ([10] : List UInt8).toArray := rfl
    rw [e, ByteArray.mk_append_mk]
  have E0 : Hid (txB o ++ ByteArray.mk #[10] = ⟨(ptxL (o :: hs.take 0)).toArray⟩) := by change _ = _; rw [H0.out]; exact hcat _
  have HCt : Hid (∀ l : List UInt8, ByteArray.mk l.toArray ++ ByteArray.mk #[10] = ⟨(l ++ [10]).toArray⟩) := hcat
  clear hcat
  go_wp2_with fail
  refine (sText_ok a la ca o (by omega) w1 hP ho2).mono ?_
  rintro e w2 ⟨rfl, J⟩
  replace K := bw_trans K J
  replace TP := keep J TP
  replace hS := (hS.below J).grow J.size
  replace hH : ∀ j, j < nh → L j ≤ 1048576 ∧ Pts w2.heap.size w2 (A j) (L j) (hs[j]?.getD []) := fun j hj => ⟨(hH j hj).1, ((hH j hj).2.below J).grow J.size⟩
  clear t0 t1 J hP ho2
  obtain ⟨t0, t1⟩ := blk_2 TP
  go_wp2_with fail
  go_loopw [3, 4] (fun s i wr => ∃ k : Nat, k ≤ nh ∧ i = .int .i64 k ∧ s = .string ⟨(ptxL (o :: hs.take k)).toArray⟩ ∧ (ptxL (o :: hs.take k)).length ≤ 353 * (k + 1) ∧ Below w2.heap.size w2 wr) (fun _ i _ => nh - (intOf i).toNat)
  case atStart => exact ⟨0, Nat.zero_le _, rfl, by rw [E0.out], by rw [H0.out]; simp only [List.length_append, List.length_cons, List.length_nil]; omega, bw_refl _⟩
  case round =>
    obtain ⟨k, hk, rfl, rfl, hkl, hnx⟩ := hrel
    obtain ⟨t0, t1⟩ := blk_2 (keep hnx TP)
    by_cases hlt : k < nh
    case neg =>
      obtain rfl : k = nh := by omega
      have e2 : Hid (ptB' o hs = ⟨(ptxL (o :: hs.take k)).toArray⟩) := by change _ = _; rw [e1.out, HE.out]
      clear hkl
      go_wp2_with fail
      go_ret
      exact ⟨ret_str e2.out.symm, bw_trans K hnx⟩
    case pos =>
      rcases hS.below hnx with h0 | ⟨b, off, rfl, hbl, hcs⟩
      · omega
      have c0 := hcs k hlt
      clear hcs
      have i0 : (0 : Int) ≤ (k : Int) := Int.natCast_nonneg _
      have i1 : (k : Int) < (nh : Int) := by omega
      obtain ⟨hLk, hPk⟩ := hH k hlt
      have hokk := HO.out k hlt
      have hk8 := (okV_pos hokk).2
      have hkn : (hs[k]?.getD []).length = L k := hPk.1
      have hk2 : ∀ i, i < L k → ptB (ptAt (hs[k]?.getD []) i).1 (ptAt (hs[k]?.getD []) i).2 = true := fun i hi => okV_pt8 hokk (by rw [hkn]; exact hi)
      have hksh := tx_short hokk
      have hst := HS.out k hlt
      have hkz : (txB (hs[k]?.getD [])).size ≤ 352 := by unfold txB ByteArray.size; simpa using hksh
      have hCt := sText_ok (A k) (L k) (C k) (hs[k]?.getD []) (by omega) wr ((hPk.below hnx).grow hnx.size) hk2
      have E1 : Hid (ByteArray.mk (ptxL (o :: hs.take k)).toArray ++ txB (hs[k]?.getD []) ++ ByteArray.mk #[10] = ⟨(ptxL (o :: hs.take (k + 1))).toArray⟩) := by
        change _ = _
        unfold txB
        rw [show (ByteArray.mk #[10]) = ByteArray.mk ([10] : List UInt8).toArray from rfl, ByteArray.mk_append_mk, ByteArray.mk_append_mk, hst]
      have hlen1 : (ptxL (o :: hs.take (k + 1))).length ≤ 353 * (k + 1 + 1) := by rw [hst]; simp only [List.length_append, List.length_cons, List.length_nil]; omega
      have hpz : (ByteArray.mk (ptxL (o :: hs.take k)).toArray).size ≤ 1059 := by unfold ByteArray.size; simp; omega
      clear hst hk2 hPk hksh
      generalize hgT : txB (hs[k]?.getD []) = tk at *
      generalize hgP : ByteArray.mk (ptxL (o :: hs.take k)).toArray = pk at *
      go_wp2_with fail
      refine hCt.mono ?_
      rintro e w3 ⟨rfl, J⟩
      go_wp2_with fail
      go_roundw
      case rel => exact ⟨k + 1, by omega, by simp, by rw [E1.out], hlen1, bw_trans hnx J⟩
      case measure => simp [intOf]; omega
end Go.Proofs.YtfnhbdanfnpdeaaDoor
namespace Go.Proofs.YtfnhbdanfnpdeaaDoor
open Go.RowKit Go.Sort

theorem foldl_take_succ {α β : Type} (f : β → α → β) (l : List α) (d : α) (s : β) (k : Nat) (hk : k < l.length) : (l.take (k + 1)).foldl f s = f ((l.take k).foldl f s) (l[k]?.getD d) := by
  rw [List.take_add_one, List.foldl_append]; simp [hk]
theorem plI_bd (o : List P2) (hs : List (List P2)) (p : P2) : -1 ≤ plI o hs p ∧ plI o hs p ≤ 1 := by
  unfold plI
  have : ∀ (hs : List (List P2)) (s : Int), -1 ≤ s ∧ s ≤ 1 → -1 ≤ hs.foldl (fun s h => min s (-(inI h p))) s ∧ hs.foldl (fun s h => min s (-(inI h p))) s ≤ 1 := by
    intro hs
    induction hs with
    | nil => intro s h; exact h
    | cons x xs ih => intro s h; exact ih _ (by dsimp only; have := inI_3 x p; omega)
  exact this hs _ (by have := inI_3 o p; omega)
set_option maxRecDepth 100000 in
set_option maxHeartbeats 4000000 in
theorem sPlI_ok (a ah : Option Addr) (la ca nh ch : Nat) (o : List P2) (hs : List (List P2)) (p : P2) (hv : plV o hs = true) (hp : ptB p.1 p.2 = true) (w : World) (h : Plt w a la ah nh o hs) :
    Calls Tryd.prog 48 #[.agg #[.slice a la ca, .slice ah nh ch], .agg #[.int .i64 p.1, .int .i64 p.2]] w fun e W' => e = .returned (.int .i64 (plI o hs p)) ∧ Below w.heap.size w W' := by
  obtain ⟨W, hW, BW, TP, T⟩ := boxes2 w (.cells #[.slice a la ca, .slice ah nh ch] 40) (.cells #[.int .i64 p.1, .int .i64 p.2] 46)
  have hPV := (plV_iff o hs).1 hv
  obtain ⟨hla, hP, hlen, A, L, C, hS, hH⟩ := h.below BW
  have HO := sInI_pts a la ca o p hPV.out hp W hP
  have HOK : Hid (∀ j, j < nh → okV (hs[j]?.getD []) = true) := fun j hj => hPV.ok _ (by rw [List.getElem?_eq_getElem (by omega), Option.getD_some]; exact List.getElem_mem _)
  have HL : Hid (hs.length = nh) := hlen
  have H0 : Hid (plI o (hs.take 0) p = inI o p) := rfl
  have HN : Hid (plI o (hs.take nh) p = plI o hs p) := by change _ = _; rw [← hlen, List.take_length]
  have HS : Hid (∀ k, k < nh → plI o (hs.take (k + 1)) p = min (plI o (hs.take k) p) (-(inI (hs[k]?.getD []) p))) := fun k hk => by
    unfold plI; exact foldl_take_succ _ hs [] _ k (by omega)
  have hnh : nh ≤ 2 := by have := hPV.len; omega
  clear hlen hPV hv h
  obtain ⟨t0, t1⟩ := blk_2 TP
  obtain ⟨u0, u1⟩ := blk_2 T
  have zP := blk_lt TP
  go_enter Tryd.func48, Tryd.ntmps48
  go_upto_region 1 with fail
  rw [← hW]
  clear hW
  go_wp2_with (go_at_call 49; refine HO.mono ?_; rintro e v ⟨rfl, J⟩)
  have K := bw_trans BW J
  replace TP := keep J TP
  replace T := keep J T
  replace hS := (hS.below J).grow J.size
  replace hH : ∀ j, j < nh → L j ≤ 1048576 ∧ Pts v.heap.size v (A j) (L j) (hs[j]?.getD []) := fun j hj => ⟨(hH j hj).1, ((hH j hj).2.below J).grow J.size⟩
  clear HO t0 t1 u0 u1 J zP
  go_loopw [5, 6] (fun s i wr => ∃ k : Nat, k ≤ nh ∧ i = .int .i64 k ∧ s = .int .i64 (plI o (hs.take k) p) ∧ Below v.heap.size v wr) (fun _ i _ => nh - (intOf i).toNat)
  case atStart => exact ⟨0, Nat.zero_le _, rfl, by rw [H0.out], bw_refl _⟩
  case round =>
    obtain ⟨k, hk, rfl, rfl, hnx⟩ := hrel
    have hbd := plI_bd o (hs.take k) p
    obtain ⟨t0, t1⟩ := blk_2 (keep hnx TP)
    have zT := blk_lt (keep hnx TP)
    by_cases hlt : k < nh
    case neg =>
      obtain rfl : k = nh := by omega
      rw [HN.out]
      go_wp2_with fail
      go_ret
      exact ⟨rfl, bw_trans K hnx⟩
    case pos =>
      rcases hS.below hnx with h0 | ⟨b, off, rfl, hbl, hcs⟩
      · omega
      have c0 := cell_regrown (hcs k hlt)
      clear hcs
      have i0 : (0 : Int) ≤ (k : Int) := Int.natCast_nonneg _
      have i1 : (k : Int) < (nh : Int) := by omega
      obtain ⟨hLk, hPk⟩ := hH k hlt
      have hokk := HOK.out k hlt
      have hst := HS.out k hlt
      have hPkw := (hPk.below hnx).grow hnx.size
      have y3 := inI_3 (hs[k]?.getD []) p
      have HW : Hid (∀ d os, Calls Tryd.prog 49 #[.slice (A k) (L k) (C k), .agg #[.int .i64 p.1, .int .i64 p.2]] (grow (redrawn wr d) os) fun e W' => e = .returned (.int .i64 (inI (hs[k]?.getD []) p)) ∧ Below (grow (redrawn wr d) os).heap.size (grow (redrawn wr d) os) W') := fun d os =>
        sInI_pts (A k) (L k) (C k) _ p hokk hp _ ((hPkw.below (below_regrown wr d os)).grow (below_regrown wr d os).size)
      obtain ⟨t0r, t1r⟩ := reg_2 (keep hnx TP)
      obtain ⟨u0r, u1r⟩ := reg_2 (keep hnx T)
      have hst' : Hid (plI o (hs.take (k + 1)) p = min (plI o (hs.take k) p) (-(inI (hs[k]?.getD []) p))) := hst
      clear hst hokk hPk hPkw
      generalize inI (hs[k]?.getD []) p = u1 at *
      generalize plI o (hs.take k) p = u at *
      have nu : IntKind.i64.wrap (-u1) = -u1 := wrap_small (by omega) (by omega)
      by_cases hm : -u1 < u
      · have hmin : min u (-u1) = -u1 := by omega
        go_wp2_with fail
        refine wp_region_quiet_below (by kernel_rfl) (by kernel_rfl) ?_
        repeat (first | go_big_quiet_step (first | (go_at_call 49; with_reducible exact Calls.regrown_of (HW.out _ _))))
        refine wpQuiet_nil ?_
        intro _ hw'
        obtain ⟨⟨dq, osq⟩, hw''⟩ := hw'
        subst hw''
        have J := below_regrown wr dq osq
        generalize grow (redrawn wr dq) osq = v2 at J ⊢
        go_wp2_with fail
        go_roundw
        case rel => exact ⟨k + 1, by omega, by simp, by rw [hst'.out, hmin], bw_trans hnx J⟩
        case measure => simp [intOf]; omega
      · have hmin : min u (-u1) = u := by omega
        go_wp2_with fail
        refine wp_region_quiet_below (by kernel_rfl) (by kernel_rfl) ?_
        repeat (first | go_big_quiet_step (first | (go_at_call 49; with_reducible exact Calls.regrown_of (HW.out _ _))))
        refine wpQuiet_nil ?_
        intro _ hw'
        obtain ⟨⟨dq, osq⟩, hw''⟩ := hw'
        subst hw''
        have J := below_regrown wr dq osq
        generalize grow (redrawn wr dq) osq = v2 at J ⊢
        go_wp2_with fail
        go_roundw
        case rel => exact ⟨k + 1, by omega, by simp, by rw [hst'.out, hmin], bw_trans hnx J⟩
        case measure => simp [intOf]; omega
set_option maxRecDepth 100000 in
set_option maxHeartbeats 1000000 in
theorem sPlateIn_any (a ah : Option Addr) (la ca nh ch : Nat) (o : List P2) (hs : List (List P2)) (p : P2) (w : World) (h : Plt w a la ah nh o hs) :
    Calls Tryd.prog 23 #[.agg #[.slice a la ca, .slice ah nh ch], .agg #[.int .i64 p.1, .int .i64 p.2]] w fun e W' => e = .returned (.int .i64 (plInV o hs p)) ∧ Below w.heap.size w W' := by
  obtain ⟨W, hW, BW, TP, T⟩ := boxes2 w (.cells #[.slice a la ca, .slice ah nh ch] 40) (.cells #[.int .i64 p.1, .int .i64 p.2] 46)
  have hh := h.below BW
  obtain ⟨t0, t1⟩ := blk_2 TP
  have zP := blk_lt TP
  have hcall := sPlateOk_any a ah la ca nh ch o hs W hh
  cases hv : plV o hs
  · rw [hv] at hcall
    have e1 : Hid (plInV o hs p = -1) := by change _ = _; unfold plInV; rw [hv]; rfl
    go_enter Tryd.func23, Tryd.ntmps23
    go_upto_region 1 with fail
    rw [← hW]
    clear hW
    go_wp2_with (go_at_call 24; refine hcall.mono ?_; rintro e w1 ⟨rfl, J⟩)
    go_ret
    exact ⟨ret_int e1.out.symm, bw_trans BW J⟩
  rw [hv] at hcall
  cases hp : ptB p.1 p.2
  · have e1 : Hid (plInV o hs p = -1) := by change _ = _; unfold plInV; rw [hv, hp]; rfl
    go_enter Tryd.func23, Tryd.ntmps23
    go_upto_region 1 with fail
    rw [← hW]
    clear hW
    go_wp2_with (go_at_call 24; refine hcall.mono ?_; rintro e w1 ⟨rfl, J⟩; obtain ⟨s0, s1⟩ := blk_2 (keep J T))
    refine (sPt_raw p _).mono ?_
    rw [hp]
    rintro e w2 ⟨rfl, J2⟩
    go_wp2_with fail
    go_ret
    exact ⟨ret_int e1.out.symm, bw_trans (bw_trans BW J) J2⟩
  · have e1 : Hid (plInV o hs p = plI o hs p) := by change _ = _; unfold plInV; rw [hv, hp]; rfl
    go_enter Tryd.func23, Tryd.ntmps23
    go_upto_region 1 with fail
    rw [← hW]
    clear hW
    go_wp2_with (go_at_call 24; refine hcall.mono ?_; rintro e w1 ⟨rfl, J⟩; obtain ⟨s0, s1⟩ := blk_2 (keep J T))
    refine (sPt_raw p _).mono ?_
    rw [hp]
    rintro e w2 ⟨rfl, J2⟩
    have J3 := bw_trans J J2
    clear s0 s1 t0 t1
    obtain ⟨s0, s1⟩ := blk_2 (keep J3 T)
    obtain ⟨t0, t1⟩ := blk_2 (keep J3 TP)
    go_wp2_with fail
    refine (sPlI_ok a ah la ca nh ch o hs p hv hp w2 (hh.below J3)).mono ?_
    rintro e w3 ⟨rfl, J4⟩
    go_wp2_with fail
    go_ret
    exact ⟨ret_int e1.out.symm, bw_trans (bw_trans BW J3) J4⟩
end Go.Proofs.YtfnhbdanfnpdeaaDoor
namespace Go.Proofs.YtfnhbdanfnpdeaaDoor
open Go.RowKit Go.Shelf Go.Sort

set_option maxRecDepth 100000 in
set_option maxHeartbeats 1000000 in
/-- LoopIn. -/
theorem in_any' (a : Option Addr) (len cap : Nat) (pts : List P2) (p : P2) (hlen : len ≤ 1048576) (w : World) (hP : Pts w.heap.size w a len pts) :
    Calls Tryd.prog 26 #[.slice a len cap, .agg #[.int .i64 p.1, .int .i64 p.2]] w fun e W' => e = .returned (.int .i64 (inV pts p)) ∧ Below w.heap.size w W' := by
  obtain ⟨W, hW, BW, T⟩ : ∃ W, W = w.alloc (.cells #[.int .i64 p.1, .int .i64 p.2] 46) ∧ Below w.heap.size w W ∧ W.heap[w.heap.size]? = some (.cells #[.int .i64 p.1, .int .i64 p.2] 46) := ⟨_, rfl, (by repeat (first | exact bw_refl _ | assumption | apply bw_drewN | apply bw_drew | apply bw_alloc | refine bw_set ?_ (by simp) _)), heap_new _ _⟩
  have hP1 := (hP.below BW).grow BW.size
  have hcall := ok_any a len cap pts hlen W hP1
  cases hok : okV pts
  · rw [hok] at hcall
    have e1 : Hid (inV pts p = -1) := by change _ = _; unfold inV; rw [hok]; rfl
    go_enter Tryd.func26, Tryd.ntmps26
    go_upto_region 1 with fail
    rw [← hW]
    clear hW
    go_wp2_with (go_at_call 30; refine hcall.mono ?_; rintro e v ⟨rfl, J0⟩)
    go_ret
    exact ⟨ret_int e1.out.symm, bw_trans BW J0⟩
  rw [hok] at hcall
  cases hp : ptB p.1 p.2
  · have e1 : Hid (inV pts p = -1) := by change _ = _; unfold inV; rw [hok, hp]; rfl
    go_enter Tryd.func26, Tryd.ntmps26
    go_upto_region 1 with fail
    rw [← hW]
    clear hW
    go_wp2_with (go_at_call 30; refine hcall.mono ?_; rintro e v ⟨rfl, J0⟩; obtain ⟨t0, t1⟩ := blk_2 (keep J0 T))
    refine (pt_raw p _).mono ?_
    rw [hp]
    rintro e v2 ⟨rfl, J1⟩
    go_wp2_with fail
    go_ret
    exact ⟨ret_int e1.out.symm, bw_trans (bw_trans BW J0) J1⟩
  · have e1 : Hid (inV pts p = inI pts p) := by change _ = _; unfold inV; rw [hok, hp]; rfl
    go_enter Tryd.func26, Tryd.ntmps26
    go_upto_region 1 with fail
    rw [← hW]
    clear hW
    go_wp2_with (go_at_call 30; refine hcall.mono ?_; rintro e v ⟨rfl, J0⟩; obtain ⟨t0, t1⟩ := blk_2 (keep J0 T))
    refine (pt_raw p _).mono ?_
    rw [hp]
    rintro e v2 ⟨rfl, J1⟩
    clear t0 t1
    have J2 := bw_trans J0 J1
    obtain ⟨t0, t1⟩ := blk_2 (keep J2 T)
    go_wp2_with fail
    refine (where_any a len cap pts p hlen hok hp v2 ((hP1.below J2).grow J2.size)).mono ?_
    rintro e v3 ⟨rfl, J3⟩
    go_wp2_with fail
    go_ret
    exact ⟨ret_int e1.out.symm, bw_trans (bw_trans BW J2) J3⟩
end Go.Proofs.YtfnhbdanfnpdeaaDoor
namespace Go.Proofs.YtfnhbdanfnpdeaaDoor
open Go.RowKit Go.Sort

theorem plI_le (o : List P2) (p : P2) : ∀ (hs : List (List P2)) (s : Int), hs.foldl (fun s h => min s (-(inI h p))) s ≤ s
  | [], _ => Int.le_refl _
  | h :: hs, s => Int.le_trans (plI_le o p hs (min s (-(inI h p)))) (Int.min_le_left _ _)
set_option maxRecDepth 100000 in
set_option maxHeartbeats 4000000 in
theorem plateLoop_walk (w : World) (a0 : Option Addr) (len0 cap0 : Nat) (z0 : List Int) (r0 : IsRow .u8 w a0 len0 cap0 z0) (hT : Tab w) :
    Calls Tryd.prog 6 #[.slice a0 len0 cap0] w fun e w' => e = .returned (.bool true) ∧ Below w.heap.size w w' := by
  by_cases hl : 1048576 < len0
  · go_enter Tryd.func6, Tryd.ntmps6
    go_wp2
    go_ret
    exact ⟨rfl, bw_refl _⟩
  have hl0 : len0 ≤ 1048576 := by omega
  clear hl
  have heq : ∀ b : Int, (b == b) = true := by simp
  go_enter Tryd.func6, Tryd.ntmps6
  go_wp2_with fail
  refine (drawPlateIn_any w _ r0 (bw_refl _)).mono ?_
  rintro e w1 ⟨⟨g, n, c, l⟩, hv, hs, x, y, he, hPB, hD, ⟨hs3, hst⟩, J1⟩
  obtain rfl : e = .returned (.tuple #[.agg #[.slice (some ⟨g, 0, none⟩) n c, hv], .agg #[.int .i64 x, .int .i64 y]]) := he
  obtain ⟨gh, ch, rfl⟩ : ∃ gh ch, hv = .slice (some ⟨gh, 0, none⟩) hs.length ch := own_seat hD.2.2.1 hst
  obtain ⟨W, hW, BW, T, T2⟩ := boxes2 w1 (.cells #[.slice (some ⟨g, 0, none⟩) n c, .slice (some ⟨gh, 0, none⟩) hs.length ch] 40) (.cells #[.int .i64 x, .int .i64 y] 46)
  replace hD := hD.below BW
  have K := bw_trans J1 BW
  go_upto_region 4 with fail
  rw [← hW]
  clear hW BW J1
  have hPl := hD.plt
  obtain ⟨N, hNN⟩ : ∃ N, hs.length = N := ⟨_, rfl⟩
  have HN : Hid (hs.length = N) := hNN
  rw [hNN] at T hPl
  rw [hNN]
  clear hNN hst
  have hN3 : N ≤ 3 := by have := HN.out; omega
  obtain ⟨hS, hHS⟩ : ∃ hS, hs.map LoopT.l = hS := ⟨_, rfl⟩
  rw [hHS] at hPl
  obtain ⟨t0, t1⟩ := blk_2 T
  obtain ⟨u0, u1⟩ := blk_2 T2
  obtain ⟨ui, hui⟩ : ∃ ui, plInV l hS (x, y) = ui := ⟨_, rfl⟩
  go_wp2_with fail
  refine (plateIn_any _ _ n c N ch l hS (x, y) _ hPl).mono ?_
  rw [hui]
  rintro e w2 ⟨rfl, J⟩
  replace K := bw_trans K J
  replace T := keep J T
  replace T2 := keep J T2
  replace hD := hD.below J
  replace hPl := hPl.below J
  clear J t0 t1 u0 u1
  obtain ⟨t0, t1⟩ := blk_2 T
  obtain ⟨u0, u1⟩ := blk_2 T2
  go_wp2_with fail
  refine (sPlateIn_any _ _ n c N ch l hS (x, y) _ hPl).mono ?_
  rw [hui]
  rintro e w3 ⟨rfl, J⟩
  replace K := bw_trans K J
  replace T := keep J T
  replace T2 := keep J T2
  replace hD := hD.below J
  replace hPl := hPl.below J
  clear J t0 t1 u0 u1
  obtain ⟨t0, t1⟩ := blk_2 T
  obtain ⟨u0, u1⟩ := blk_2 T2
  cases hv : plV l hS
  case false =>
    go_wp2_with fail
    refine (sPlateOk_any _ _ n c N ch l _ _ hPl).mono ?_
    rw [hv]
    rintro e w4 ⟨rfl, J⟩
    replace K := bw_trans K J
    replace hPl := hPl.below J
    obtain ⟨t0, t1⟩ := blk_2 (keep J T)
    obtain ⟨u0, u1⟩ := blk_2 (keep J T2)
    go_wp2_with fail
    refine (sPlateIn_any _ _ n c N ch l _ (x, y) _ hPl).mono ?_
    rw [hui]
    rintro e w5 ⟨rfl, J⟩
    go_wp2_with fail
    go_ret
    exact ⟨rfl, bw_trans K J⟩
  go_wp2_with fail
  refine (sPlateOk_any _ _ n c N ch l _ _ hPl).mono ?_
  rw [hv]
  rintro e w4 ⟨rfl, J⟩
  replace K := bw_trans K J
  replace T := keep J T
  replace T2 := keep J T2
  replace hD := hD.below J
  replace hPl := hPl.below J
  clear J t0 t1 u0 u1
  obtain ⟨t0, t1⟩ := blk_2 T
  obtain ⟨u0, u1⟩ := blk_2 T2
  cases hp : ptB x y
  case false =>
    go_wp2_with fail
    refine (sPt_any x y _).mono ?_
    rw [hp]
    rintro e w5 ⟨rfl, J⟩
    replace K := bw_trans K J
    replace hPl := hPl.below J
    obtain ⟨t0, t1⟩ := blk_2 (keep J T)
    obtain ⟨u0, u1⟩ := blk_2 (keep J T2)
    go_wp2_with fail
    refine (sPlateIn_any _ _ n c N ch l _ (x, y) _ hPl).mono ?_
    rw [hui]
    rintro e w6 ⟨rfl, J⟩
    go_wp2_with fail
    go_ret
    exact ⟨rfl, bw_trans K J⟩
  go_wp2_with fail
  refine (sPt_any x y _).mono ?_
  rw [hp]
  rintro e w5 ⟨rfl, J⟩
  replace K := bw_trans K J
  replace T := keep J T
  replace T2 := keep J T2
  replace hD := hD.below J
  replace hPl := hPl.below J
  clear J t0 t1 u0 u1
  obtain ⟨t0, t1⟩ := blk_2 T
  have hL := (plV_iff _ _).1 hv
  have hok : okV l = true := hL.out
  obtain ⟨o1, o2, o3, o4, o5, o6, o7⟩ := hD.1
  have o2' : n ≤ 1048576 := by have : n ≤ 8 := o2; omega
  have hPo := blk_pts o7 o3
  obtain ⟨iu, hiu⟩ : ∃ iu, inI l (x, y) = iu := ⟨_, rfl⟩
  have hio : inV l (x, y) = iu := by rw [← hiu]; unfold inV; rw [hok, show ptB (x, y).1 (x, y).2 = true from hp]; rfl
  have hq1 : plV l [] = true := hok
  have hqi : plInV l [] (x, y) = iu := by rw [← hiu]; unfold plInV; rw [hq1, show ptB (x, y).1 (x, y).2 = true from hp]; rfl
  have hle : ui ≤ iu := by rw [← hui, ← hiu]; unfold plInV; rw [hv, show ptB (x, y).1 (x, y).2 = true from hp]; exact plI_le l (x, y) hS _
  have htq : ptB' l [] = txB l ++ ByteArray.mk #[10] := by
    unfold ptB' txB
    rw [hq1, show (ByteArray.mk #[10]) = ByteArray.mk ([10] : List UInt8).toArray from rfl, ByteArray.mk_append_mk]
    simp [ptxL]
  have hlt : ltB l = txB l := by unfold ltB; rw [hok]; rfl
  have hsz : (txB l).size ≤ 352 := by have := tx_short hok; unfold txB ByteArray.size; simpa using this
  obtain ⟨V, hV, BV, Q⟩ : ∃ V, V = w5.alloc (.cells #[.slice (some ⟨g, 0, none⟩) n c, .slice none 0 0] 40) ∧ Below w5.heap.size w5 V ∧ V.heap[w5.heap.size]? = some (.cells #[.slice (some ⟨g, 0, none⟩) n c, .slice none 0 0] 40 (0, 0)) := ⟨_, rfl, (by repeat (first | exact bw_refl _ | assumption | apply bw_drewN | apply bw_drew | apply bw_alloc | refine bw_set ?_ (by simp) _)), heap_new _ _⟩
  go_upto_region 8 with fail
  rw [← hV]
  clear hV t0 t1
  have KV := bw_trans K BV
  have hPV := (hPo.below BV).grow BV.size
  have hTV := hT.below KV
  obtain ⟨t0, t1⟩ := reg_2 (keep BV T)
  obtain ⟨u0, u1⟩ := reg_2 (keep BV T2)
  obtain ⟨q0, q1⟩ := reg_2 Q
  have hPq : ∀ d os, Plt (grow (redrawn V d) os) (some ⟨g, 0, none⟩) n none 0 l [] := fun d os =>
    ⟨o2', (hPV.below (below_regrown V d os)).grow (below_regrown V d os).size, rfl, fun _ => none, fun _ => 0, fun _ => 0, .inl rfl, fun j hj => absurd hj (Nat.not_lt_zero _)⟩
  have C1 : Hid (∀ d os, Calls Tryd.prog 22 #[.agg #[.slice (some ⟨g, 0, none⟩) n c, .slice none 0 0], .agg #[.int .i64 x, .int .i64 y]] (grow (redrawn V d) os) fun e w' => e = .returned (.int .i64 iu) ∧ Below (grow (redrawn V d) os).heap.size (grow (redrawn V d) os) w') := fun d os => by
    have := plateIn_any _ _ n c 0 0 l [] (x, y) _ (hPq d os); rwa [hqi] at this
  have C2 : Hid (∀ d os, Calls Tryd.prog 26 #[.slice (some ⟨g, 0, none⟩) n c, .agg #[.int .i64 x, .int .i64 y]] (grow (redrawn V d) os) fun e w' => e = .returned (.int .i64 iu) ∧ Below (grow (redrawn V d) os).heap.size (grow (redrawn V d) os) w') := fun d os => by
    have := in_any' (some ⟨g, 0, none⟩) n c l (x, y) o2' _ ((hPV.below (below_regrown V d os)).grow (below_regrown V d os).size); rwa [hio] at this
  have C3 : Hid (∀ d os, Calls Tryd.prog 19 #[.agg #[.slice (some ⟨g, 0, none⟩) n c, .slice none 0 0]] (grow (redrawn V d) os) fun e w' => e = .returned (.string (txB l ++ ByteArray.mk #[10])) ∧ Below (grow (redrawn V d) os).heap.size (grow (redrawn V d) os) w') := fun d os => by
    have := plateText_any _ _ n c 0 0 l [] _ (hTV.below (below_regrown V d os)) (hPq d os); rwa [htq] at this
  have C4 : Hid (∀ d os, Calls Tryd.prog 10 #[.slice (some ⟨g, 0, none⟩) n c] (grow (redrawn V d) os) fun e w' => e = .returned (.string (txB l)) ∧ Below (grow (redrawn V d) os).heap.size (grow (redrawn V d) os) w') := fun d os => by
    have := loopText_any (some ⟨g, 0, none⟩) n c l o2' _ (hTV.below (below_regrown V d os)) ((hPV.below (below_regrown V d os)).grow (below_regrown V d os).size); rwa [hlt] at this
  clear hPq htq hlt hio hqi hiu hui hPo hD hL o1 o2 o3 o4 o5 o6 o7 hPl
  generalize txB l = tl at *
  have hge : ui ≤ iu := hle
  refine wp_region_quiet_below (by kernel_rfl) (by kernel_rfl) ?_
  repeat (first | go_big_quiet_step (first | (go_at_call 22; with_reducible exact Calls.regrown_of (C1.out _ _)) | (go_at_call 26; with_reducible exact Calls.regrown_of (C2.out _ _)) | (go_at_call 19; with_reducible exact Calls.regrown_of (C3.out _ _)) | (go_at_call 10; with_reducible exact Calls.regrown_of (C4.out _ _))))
  refine wpQuiet_nil ?_
  intro _ hw'
  obtain ⟨⟨dq, osq⟩, hw''⟩ := hw'
  subst hw''
  have J := below_regrown V dq osq
  generalize grow (redrawn V dq) osq = v9 at J ⊢
  go_wp2_with fail
  go_ret
  exact ⟨by first | rfl | simp | (simp; omega), bw_trans KV J⟩
end Go.Proofs.YtfnhbdanfnpdeaaDoor
namespace Go.Proofs.YtfnhbdanfnpdeaaDoor
open Go.ChangeShapes Go.WideShapes Go.ChangeAt Go.RowKit

theorem own : ownKnob Tryd.prog.godebug = none := by kernel_rfl
theorem laidOut : laidOutB Tryd.prog = true := by kernel_rfl
/-- The list. -/
def listTab : List (String × DataW Unit) := [("math/bits.deBruijn32tab", Rows.laid_math_bits_deBruijn32tab), ("math/bits.deBruijn64tab", Rows.laid_math_bits_deBruijn64tab), ("internal/strconv.uint64pow10", Rows.laid_internal_strconv_uint64pow10)]
theorem gPType : (Tryd.prog.globals[5]?).map (·.type) = some 164 := by kernel_rfl
theorem cellsU64 : Tryd.prog.cellsOf 145 = 1 := by kernel_rfl
theorem cellsTab : Tryd.prog.cellsOf 164 = 20 := by kernel_rfl
theorem tabSame : Rows.laid_internal_strconv_uint64pow10 (H := Unit) = Lib.tabData .u64 Lib.pow10Tab := by kernel_rfl
theorem tab_of_laid {W : World} (h : laidMetH Tryd.prog listTab W) : Tab W := by
  rw [MakeChecks.laidMetH_plain _ _ _ (by kernel_rfl)] at h
  have h3 : laidMet Tryd.prog [("internal/strconv.uint64pow10", Rows.laid_internal_strconv_uint64pow10)] W := (laidMet.tail (laidMet.tail h))
  rw [tabSame] at h3
  exact Lib.tabIs_of_head gP gPType Tryd.underlying164 Tryd.underlying145 cellsU64 cellsTab h3
/-- The door's own heap meets the condition. -/
theorem door_met_tab (os : Os) (args : Array Value) : laidMetH Tryd.prog listTab ((World.doorLaid Tryd.prog 72 os).forCall (fun _ _ => 0) ⟨#[], args, []⟩).memory :=
  laidMetH_of_parts3 (fuel := 8) (laidMet_of_run' 8 (by kernel_rfl) (by kernel_rfl)) (by kernel_rfl) (by kernel_rfl)
end Go.Proofs.YtfnhbdanfnpdeaaDoor
namespace Go.Proofs.YtfnhbdanfnpdeaaDoor
open Go.ChangeShapes Go.WideShapes Go.ChangeAt Go.RowKit Go.Joins
open Go.ChangeMaps (open_string shut_string)

set_option maxRecDepth 100000 in
theorem fnPlateLoop_lifted (os : Os) (started : os.Started) (H : Type) (enc : TypeId × Value → H) :
    ReturnsInHanded {} Tryd.checked os 6 .any (fun w args => (Rows.fnPlateLoopSpec.pre enc Tryd.prog Tryd.f6 [] false w args ∧ laidMetH Tryd.prog Rows.fnPlateLoopRow.laid w) ∧ sizedMet enc Tryd.prog Tryd.f6 (OpenSpec.ofChange Rows.fnPlateLoopSpec) false w args)
      (Rows.fnPlateLoopSpec.post enc Tryd.prog Tryd.f6 false true false false) := by
  refine returnsInHanded_of_change_and (C := Tryd.checked) (X := fun w _ => laidMetH Tryd.prog Rows.fnPlateLoopRow.laid w) (fun _ _ _ hh h => h.of_heap hh) own started (by kernel_rfl) Tryd.func6
    (ChangeSpec.witness_shaped (enc := enc) (C := Tryd.checked) (os := os) (X := fun w _ => laidMetH Tryd.prog Rows.fnPlateLoopRow.laid w) false (World.doorLaid Tryd.prog 72 os) #[.slice none 0 0] 8 rfl (World.shaped_of_RefB (by kernel_rfl) (by kernel_rfl)) (by kernel_rfl) (by kernel_rfl) (by kernel_rfl) (door_met_tab os _)) ?_
  intro W base args ds gs before hval0 hW _ _ hL _
  have hval : ∀ (j : Nat) t v, Tryd.f6.params[j]? = some t → args[j]? = some v → Value.okWide Tryd.prog W .any base t v := hval0
  have hW' := hW
  obtain ⟨p, q, hA0, hV, rfl, hfz, hnd⟩ := hW
  have hA : DataW.TrodAll enc Tryd.prog W 0 (fun _ => true) true Tryd.f6.params.toList args.toList ds p := hA0
  rw [Tryd.params6] at hA hval
  obtain ⟨v0, vs0, d0, ds0, p0, q0, hargs, rfl, rfl, h0, r0⟩ := trodAll_cons hA
  obtain ⟨rfl, rfl, rfl⟩ := trodAll_nil r0
  obtain rfl : args = #[v0] := by cases args; simp_all
  obtain ⟨rfl, rfl⟩ := trodVars_none hV
  have htab := tab_of_laid hL
  have k0 := h0
  have lt0 : ∀ x ∈ p0, x.block < W.heap.size := by obtain ⟨m, hm⟩ := k0; exact DataW.trod_lt m _ _ _ hm
  obtain ⟨a0, len0, cap0, rfl⟩ := okWide_slice Tryd.underlying44 (hval 0 44 v0 rfl rfl)
  obtain ⟨z0, w0⟩ : ∃ zs, IsRow .u8 W a0 len0 cap0 zs := by
    obtain ⟨fuel, hf⟩ := h0
    rcases open_ints Tryd.underlying44 Tryd.underlying5 (by kernel_rfl) hf with ⟨hcs, _⟩ | ⟨x, l, c, zs, hcs, _, hl, hm, hz, _, hcell, hwz⟩
    · simp [Value.cells] at hcs
      obtain ⟨rfl, rfl, rfl⟩ := hcs
      exact ⟨[], .inl ⟨rfl, rfl, rfl, rfl⟩⟩
    · simp [Value.cells] at hcs
      obtain ⟨rfl, rfl, rfl⟩ := hcs
      exact ⟨zs, .inr ⟨_, rfl, hl, hm, by simpa using hz, hcell, hwz⟩⟩
  clear hA0 hval0
  refine (plateLoop_walk W a0 len0 cap0 z0 w0 htab).mono fun e W' ⟨he, bel⟩ => ?_
  subst he
  exact ⟨_, rfl, _, _, _, [], _, [], hW', trodAll_mk1 (shut_bool Tryd.underlying4 _), (trodAll_cons_mk (Below.trod laidOut (by kernel_rfl) (of_decide_eq_true (by kernel_rfl)) k0 bel lt0) trodAll_mk0), rfl, bel.frame _, fun h => by cases h⟩

theorem fnPlateLoop_said : Rows.FnPlateLoopSaid :=
  OpenClaim.holds_of_wide 6 Tryd.f6 rfl rfl rfl rfl rfl rfl rfl ⟨rfl, rfl, rfl, rfl, rfl⟩ rfl rfl rfl rfl rfl (by kernel_rfl) Tryd.func6 (by kernel_rfl)
    (of_decide_eq_true (by kernel_rfl)) (by unfold Func.isWrapper; first | (rw [if_pos (by decide +kernel)]; kernel_rfl) | (rw [if_neg (by decide +kernel)]; exact ⟨rfl, rfl⟩))
    (fun os started H enc _ => fnPlateLoop_lifted os started H enc)

theorem fnPlateLoop_plain (f : FuncId) (fn : Func) (hf : Tryd.pinned.checked.prog.funcNamed "loop.example/mortiser/laws.FnPlateLoop" = some f) (hfn : Tryd.pinned.checked.prog.funcs[f]? = some fn) :
    true = Tryd.pinned.checked.prog.looks [] ∧ ∀ (j : Nat) t, fn.params[j]? = some t → Tryd.pinned.checked.prog.wantsStandIn t = false := by
  obtain rfl : f = 6 := Option.some.inj ((show Tryd.prog.funcNamed "loop.example/mortiser/laws.FnPlateLoop" = some 6 by kernel_rfl).symm.trans hf) |>.symm
  obtain rfl : fn = Tryd.f6 := (Option.some.inj (Tryd.func6.symm.trans hfn)).symm
  refine ⟨by kernel_rfl, fun j t ht => ?_⟩
  rw [Tryd.params6] at ht
  have hm := Array.mem_of_getElem? ht
  simp only [List.mem_toArray, List.mem_cons, List.not_mem_nil, or_false] at hm
  subst hm
  exact (show Tryd.prog.wantsStandIn 44 = false by kernel_rfl)

/-- THE STATEMENT. -/
theorem fnPlateLoop_card : Rows.FnPlateLoopCardSaid :=
  Claim7.holds_tied_plain_at .later [] _ _ _ _ fnPlateLoop_said (fun _ h => by cases h) (by kernel_rfl) (fun _ h => by cases h) fnPlateLoop_row_tie rfl ⟨rfl, rfl⟩ (by kernel_rfl) rfl fnPlateLoop_plain (by kernel_rfl)
end Go.Proofs.YtfnhbdanfnpdeaaDoor
