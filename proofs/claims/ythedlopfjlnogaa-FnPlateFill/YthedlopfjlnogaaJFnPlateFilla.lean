/-
  OUR OWN TEXT. The law FnPlateFill, for every input: the call returns true, and each argument reads as it did. Texts of ours, joined, so that the claim keeps to its number of files. Conditions: none but the row's own.
-/
import Derived.Test.YthedlopfjlnogaaDrawLoop
import Derived.Test.YthedlopfjlnogaaDrawPlate2
import Derived.Test.YthedlopfjlnogaaBoard
import Derived.Test.YthedlopfjlnogaaBoxes
import Derived.Test.YthedlopfjlnogaaSPlateOk
import Derived.Test.YthedlopfjlnogaaPlateI
import Derived.Test.YthedlopfjlnogaaWhere
import Derived.Test.YthedlopfjlnogaaRows
import Derived.ProofKit
import Derived.OpenShut
import Derived.ShutString
import Derived.ChangeOld
import Derived.Below
import Derived.Lib.SmallJoins
namespace Go.Proofs.Ythedlopfjlnogaa
open Go.RowKit

theorem boxes1' (w : World) (o : Obj) : ∃ W, W = w.alloc o ∧ Below w.heap.size w W ∧ W.heap[w.heap.size]? = some o := ⟨_, rfl, (by repeat (first | exact bw_refl _ | assumption | apply bw_drewN | apply bw_drew | apply bw_alloc | refine bw_set ?_ (by simp) _)), heap_new _ _⟩
/-- A loop that was drawn: points of our own memory. -/
def Loopy (base : Nat) (w' : World) (v : Value) (l : List P2) (n : Nat) : Prop :=
  ∃ (g c : Nat), v = .slice (some ⟨g, 0, none⟩) n c ∧ 3 ≤ n ∧ n ≤ 7 ∧ l.length = n ∧ n ≤ c ∧ c ≤ maxLen ∧ base ≤ g ∧ PtBlk w' g c l n
theorem Loopy.below {base : Nat} {w w' : World} {v : Value} {l : List P2} {n : Nat} (h : Loopy base w v l n) (J : Below w.heap.size w w') : Loopy base w' v l n := by
  obtain ⟨g, c, e, h1, h2, h3, h4, h5, h6, h7⟩ := h
  exact ⟨g, c, e, h1, h2, h3, h4, h5, h6, h7.below J⟩
theorem PtBlk.pts' {W : World} {g c n : Nat} {l : List P2} (h : PtBlk W g c l n) (hl : l.length = n) : Pts W.heap.size W (some ⟨g, 0, none⟩) n l := by
  have hg := h.lt
  obtain ⟨cur, h, hs, hc⟩ := h
  refine ⟨hl, .inr ⟨g, 0, rfl, hg, fun j hj => ?_⟩⟩
  rw [Nat.zero_add, row_cell h, row_cell h]; exact hc j hj
end Go.Proofs.Ythedlopfjlnogaa
namespace Go.Proofs.Ythedlopfjlnogaa
open Go.RowKit

theorem PlD.set {base b i : Nat} {W : World} {o : LoopT} {hv : Value} {hs : List LoopT} (h : PlD base W o hv hs) (hb : b < base) (v : Value) : PlD base (W.setCell ⟨b, i, none⟩ v) o hv hs :=
  h.only ((Only.refl b W).set (p := ⟨b, i, none⟩) (.inl rfl) v) hb
set_option maxRecDepth 100000 in
set_option maxHeartbeats 2000000 in
theorem drawPlateIn_any {a : Option Addr} {len0 cap : Nat} {zs : List Int} (w0 w : World) (h : IsRow .u8 w0 a len0 cap zs) (hb : Below w0.heap.size w0 w) :
    Calls Try.prog 16 #[.slice a len0 cap] w fun e w' => ∃ (o : LoopT) (hv : Value) (hs : List LoopT) (x y : Int), e = .returned (.tuple #[.agg #[o.v, hv], .agg #[.int .i64 x, .int .i64 y]]) ∧ PB x y ∧ PlD w.heap.size w' o hv hs ∧ (hs.length ≤ 3 ∧ Seat hv) ∧ Below w.heap.size w w' := by
  obtain ⟨W, hW, BW, T, T2⟩ := boxes2 w (.cells #[.slice none 0 0, .slice none 0 0] 26) (.cells #[.int .i64 0, .int .i64 0] 33)
  go_enter Try.func16, Try.ntmps16
  go_wp2_with fail
  rw [← hW]
  clear hW
  refine (open_rd w0 _ h (bw_trans hb BW)).mono ?_
  rintro e w1 ⟨len, rfl, R, hb1⟩
  have zT := blk_lt T
  have zT2 := blk_lt T2
  replace T := keep hb1 T
  replace T2 := keep hb1 T2
  have K := bw_trans BW hb1
  have z1 := hb1.size
  have zr := R.lt
  clear hb1 BW
  go_wp2_with fail
  refine (plate_any 0 a len cap _ _ (by omega) R).mono ?_
  clear R
  rintro e w2 ⟨⟨g, n, c, l⟩, hv, hs, k2, he, hD, ⟨hs3, hst⟩, hk2, R, P⟩
  obtain rfl : e = .returned (.agg #[.slice (some ⟨g, 0, none⟩) n c, hv]) := he
  replace T := keepO P T (by omega)
  replace T2 := keepO P T2 (by omega)
  have KK := K.trans (P.below' (B := w.heap.size) (by omega) (by omega))
  go_wp2_with fail
  refine (l71Pt_any k2 a len cap _ _ (by omega) R).mono ?_
  clear R
  rintro e w3 ⟨x, y, k3, rfl, hPB, hk3, R, O⟩
  replace T := keepO O T (by omega)
  replace T2 := keepO O T2 (by omega)
  replace hD := hD.only O (by omega)
  replace KK := KK.trans (O.below' (B := w.heap.size) (by omega) (by have := KK.size; omega))
  obtain ⟨gh, ch, rfl⟩ : ∃ gh ch, hv = .slice (some ⟨gh, 0, none⟩) hs.length ch := own_seat hD.2.2.1 hst
  obtain ⟨a0, a1, af0, af1⟩ := blk2 T
  obtain ⟨b0, b1, bf0, bf1⟩ := blk2 T2
  go_wp2_with fail
  have T' := set_oth (b := w.heap.size + 1) (i := 1) (v := .int .i64 y) (set_oth (b := w.heap.size + 1) (i := 0) (v := .int .i64 x) (setB2 (u0 := .slice (some ⟨g, 0, none⟩) n c) (u1 := .slice (some ⟨gh, 0, none⟩) hs.length ch) T) (by omega)) (by omega)
  have T2' := setB2 (u0 := .int .i64 x) (u1 := .int .i64 y) (set_oth (b := w.heap.size) (i := 1) (v := .slice (some ⟨gh, 0, none⟩) hs.length ch) (set_oth (b := w.heap.size) (i := 0) (v := .slice (some ⟨g, 0, none⟩) n c) T2 (by omega)) (by omega))
  obtain ⟨v0, v1, _, _⟩ := blk2 T'
  obtain ⟨v2, v3, _, _⟩ := blk2 T2'
  refine bodyPost_ret (v := .tuple #[.agg #[.slice (some ⟨g, 0, none⟩) n c, .slice (some ⟨gh, 0, none⟩) hs.length ch], .agg #[.int .i64 x, .int .i64 y]]) (by simp [results, Try.results16, go_sem, v0, v1, v2, v3]) rfl ?_
  refine ⟨⟨g, n, c, l⟩, _, hs, x, y, rfl, hPB, ((((hD.set (by omega) _).set (by omega) _).set (by omega) _).set (by omega) _).mono (by omega), ⟨hs3, hst⟩, ?_⟩
  exact (((KK.setCell (p := ⟨w.heap.size, 0, none⟩) (Nat.le_refl _) _).setCell (p := ⟨w.heap.size, 1, none⟩) (Nat.le_refl _) _).setCell (p := ⟨w.heap.size + 1, 0, none⟩) (Nat.le_succ _) _).setCell (p := ⟨w.heap.size + 1, 1, none⟩) (Nat.le_succ _) _
set_option maxRecDepth 100000 in
set_option maxHeartbeats 2000000 in
theorem drawPlateEdges_any {a : Option Addr} {len0 cap : Nat} {zs : List Int} (w0 w : World) (h : IsRow .u8 w0 a len0 cap zs) (hb : Below w0.heap.size w0 w) :
    Calls Try.prog 22 #[.slice a len0 cap] w fun e w' => ∃ (o : LoopT) (hv : Value) (hs : List LoopT), e = .returned (.agg #[o.v, hv]) ∧ PlD w.heap.size w' o hv hs ∧ (hs.length ≤ 3 ∧ Seat hv) ∧ Below w.heap.size w w' := by
  obtain ⟨W, hW, BW, T⟩ := boxes1' w (.cells #[.slice none 0 0, .slice none 0 0] 26)
  go_enter Try.func22, Try.ntmps22
  go_wp2_with fail
  rw [← hW]
  clear hW
  refine (open_rd w0 _ h (bw_trans hb BW)).mono ?_
  rintro e w1 ⟨len, rfl, R, hb1⟩
  have zT := blk_lt T
  replace T := keep hb1 T
  have K := bw_trans BW hb1
  have z1 := hb1.size
  have zr := R.lt
  clear hb1 BW
  go_wp2_with fail
  refine (plate_any 0 a len cap _ _ (by omega) R).mono ?_
  clear R
  rintro e w2 ⟨⟨g, n, c, l⟩, hv, hs, k2, he, hD, ⟨hs3, hst⟩, hk2, R, P⟩
  obtain rfl : e = .returned (.agg #[.slice (some ⟨g, 0, none⟩) n c, hv]) := he
  replace T := keepO P T (by omega)
  have KK := K.trans (P.below' (B := w.heap.size) (by omega) (by omega))
  obtain ⟨gh, ch, rfl⟩ : ∃ gh ch, hv = .slice (some ⟨gh, 0, none⟩) hs.length ch := own_seat hD.2.2.1 hst
  obtain ⟨a0, a1, af0, af1⟩ := blk2 T
  go_wp2_with fail
  have T' := setB2 (u0 := .slice (some ⟨g, 0, none⟩) n c) (u1 := .slice (some ⟨gh, 0, none⟩) hs.length ch) T
  obtain ⟨v0, v1, _, _⟩ := blk2 T'
  refine bodyPost_ret (v := .agg #[.slice (some ⟨g, 0, none⟩) n c, .slice (some ⟨gh, 0, none⟩) hs.length ch]) (by simp [results, Try.results22, go_sem, v0, v1]) rfl ?_
  exact ⟨⟨g, n, c, l⟩, _, hs, rfl, ((hD.set (by omega) _).set (by omega) _).mono (by omega), ⟨hs3, hst⟩, (KK.setCell (p := ⟨w.heap.size, 0, none⟩) (Nat.le_refl _) _).setCell (p := ⟨w.heap.size, 1, none⟩) (Nat.le_refl _) _⟩
set_option maxRecDepth 100000 in
set_option maxHeartbeats 8000000 in
theorem drawPlateOk_any {a : Option Addr} {len0 cap : Nat} {zs : List Int} (w0 w : World) (h : IsRow .u8 w0 a len0 cap zs) (hb : Below w0.heap.size w0 w) :
    Calls Try.prog 10 #[.slice a len0 cap] w fun e w' => ∃ (o : LoopT) (hv : Value) (hs : List LoopT), e = .returned (.agg #[o.v, hv]) ∧ PlD w.heap.size w' o hv hs ∧ (hs.length ≤ 4 ∧ Seat hv) ∧ Below w.heap.size w w' := by
  obtain ⟨i0, hi0, hz0, hz1, hz2⟩ := info_parts Try.infoPts
  obtain ⟨W, hW, BW, T⟩ := boxes1' w (.cells #[.slice none 0 0, .slice none 0 0] 26)
  go_enter Try.func10, Try.ntmps10
  go_wp2_with fail
  rw [← hW]
  clear hW
  refine (open_rd w0 _ h (bw_trans hb BW)).mono ?_
  rintro e wb ⟨len, rfl, R, hb1⟩
  have zT := blk_lt T
  have Z : Lies w.heap.size #[.slice none 0 0, .slice none 0 0] 26 wb := keep hb1 T
  have K := bw_trans BW hb1
  have z1 := hb1.size
  have hlt := R.lt
  clear hb1 BW T
  generalize W.heap.size = r at *
  go_wp2_with fail
  refine (plate_any 0 a len cap r _ (by omega) R).mono ?_
  clear R
  rintro e w1 ⟨⟨g, n, c, l⟩, hv, hs, k1, he, hD, ⟨hs2, hst⟩, hk1, R, P⟩
  obtain rfl : e = .returned (.agg #[.slice (some ⟨g, 0, none⟩) n c, hv]) := he
  obtain ⟨gh, ch, rfl⟩ : ∃ gh ch, hv = .slice (some ⟨gh, 0, none⟩) hs.length ch := own_seat hD.2.2.1 hst
  replace Z : Lies w.heap.size #[.slice none 0 0, .slice none 0 0] 26 w1 := keepO P Z (by omega)
  have zw1 := P.size
  have Bq : Below w1.heap.size w1 (w1.alloc (.cells #[.slice (some ⟨g, 0, none⟩) n c, .slice (some ⟨gh, 0, none⟩) hs.length ch] 26)) := (by repeat (first | exact bw_refl _ | assumption | apply bw_drewN | apply bw_drew | apply bw_alloc | refine bw_set ?_ (by simp) _))
  have Lp : Lies w1.heap.size #[.slice (some ⟨g, 0, none⟩) n c, .slice (some ⟨gh, 0, none⟩) hs.length ch] 26 (w1.alloc (.cells #[.slice (some ⟨g, 0, none⟩) n c, .slice (some ⟨gh, 0, none⟩) hs.length ch] 26)) := Lies.new w1 _ _
  have hgs : ∀ t ∈ hs, t.g < w1.heap.size := fun t ht => (hD.2.2.2 t ht).lt
  have hgw : g < w1.heap.size := hD.1.lt
  have hghw : gh < w1.heap.size := (hD.2.2.1.lt gh rfl).2
  have hghb : wb.heap.size ≤ gh := (hD.2.2.1.lt gh rfl).1
  replace R := R.below Bq
  replace P := P.trans (Only.of_below Bq)
  replace Z := Z.below Bq
  replace hD := hD.below Bq
  clear Bq
  go_wp2_with fail
  refine (pick_rd 4 k1 a len cap r _ (by omega) (by omega) R).mono ?_
  clear R
  rintro e w2 ⟨q, rfl, qa, qb, R, O⟩
  replace P := P.trans O
  replace Z : Lies w.heap.size #[.slice none 0 0, .slice none 0 0] 26 w2 := keepO O Z (by omega)
  replace Lp : Lies w1.heap.size #[.slice (some ⟨g, 0, none⟩) n c, .slice (some ⟨gh, 0, none⟩) hs.length ch] 26 w2 := keepO O Lp (by omega)
  replace hD := hD.only O (by omega)
  clear O
  obtain ⟨d0, d1, f0, f1⟩ := lies2 Lp
  obtain ⟨y0, y1, yf0, yf1⟩ := lies2 Z
  have z2 := Lp.lt
  have hmx : Try.prog.follows .mixedOrders = true := by kernel_rfl
  have hmax : hs.length + 1 ≤ maxLen := by simp [maxLen]; omega
  by_cases hq : q = 0
  case neg =>
    have e0 : (q == 0) = false := by simpa using hq
    have KK := K.trans (P.below' (B := w.heap.size) (by omega) (by omega))
    have Z1 := setB2 (u0 := .slice (some ⟨g, 0, none⟩) n c) (u1 := .slice (some ⟨gh, 0, none⟩) hs.length ch) Z
    obtain ⟨v0, v1, _, _⟩ := lies2 Z1
    go_wp2_with fail
    refine bodyPost_ret (v := .agg #[.slice (some ⟨g, 0, none⟩) n c, .slice (some ⟨gh, 0, none⟩) hs.length ch]) (by simp [results, Try.results10, go_sem, v0, v1]) rfl ?_
    exact ⟨⟨g, n, c, l⟩, _, hs, rfl, ((hD.set (by omega) _).set (by omega) _).mono (by omega), ⟨by omega, hst⟩, (KK.setCell (p := ⟨w.heap.size, 0, none⟩) (Nat.le_refl _) _).setCell (p := ⟨w.heap.size, 1, none⟩) (Nat.le_refl _) _⟩
  case pos =>
    subst hq
    have hX := loop_any (k1 + 1) a len cap r w2.drew (by omega) R.drew
    have PD := P.drew
    have ZD : Lies w.heap.size #[.slice none 0 0, .slice none 0 0] 26 w2.drew := Z
    have LpD : Lies w1.heap.size #[.slice (some ⟨g, 0, none⟩) n c, .slice (some ⟨gh, 0, none⟩) hs.length ch] 26 w2.drew := Lp
    have hDD : PlD wb.heap.size w2.drew ⟨g, n, c, l⟩ (.slice (some ⟨gh, 0, none⟩) hs.length ch) hs := hD.below (bw_drew (bw_refl _))
    go_wp2_with fail
    refine wp_region_held (S := fun _ => True) hmx ?_
    refine wpAnyH_take (i := 0) (v := .pointer (some ⟨w1.heap.size, 1, none⟩)) rfl (by kernel_rfl) (by kernel_rfl) (by kernel_rfl) (fun _ _ _ h => h) (Or.inl ⟨by rfl, by intro w' _; go_simp⟩) trivial ?_
    refine wpAnyH_take (i := 2) (v := .pointer (some ⟨r, 0, none⟩)) rfl (by kernel_rfl) (by kernel_rfl) (by kernel_rfl) (fun _ _ _ h => h) (Or.inl ⟨by rfl, by intro w' _; go_simp⟩) trivial ?_
    refine wpAnyH_all (rs := [1, 3]) (by kernel_rfl) (by simp) ?_
    intro i hi
    have hi' : i = 1 ∨ i = 3 := by simpa using hi
    clear hi
    rcases hi' with rfl | rfl
    · skip
      refine YieldsIf.wpOp (S := fun w' => w' = w2.drew) (v := .slice (some ⟨gh, 0, none⟩) hs.length ch) rfl (Or.inl ⟨by rfl, by rintro w' rfl; go_simp⟩) rfl ⟨trivial, ?_⟩
      refine wpAnyH_all (rs := [3]) (by kernel_rfl) (by simp) ?_
      intro i hi
      obtain rfl : i = 3 := by simpa using hi
      refine wpOp_now rfl (by rfl) ?_
      go_simp
      refine hX.mono ?_
      rintro e w3 ⟨g3, n3, c3, l3, k3, rfl, h3, h7, hl3, hc3, hm3, hb3, hB3, hk3, R3, O3⟩
      have P3 := PD.trans O3
      have Z3 : Lies w.heap.size #[.slice none 0 0, .slice none 0 0] 26 w3 := keepO O3 ZD (by omega)
      have Lp3 : Lies w1.heap.size #[.slice (some ⟨g, 0, none⟩) n c, .slice (some ⟨gh, 0, none⟩) hs.length ch] 26 w3 := keepO O3 LpD (by omega)
      have hD3 := hDD.only O3 (by omega)
      obtain ⟨d03, d13, f03, f13⟩ := lies2 Lp3
      have zz3 := Lp3.lt
      have zr3 := R3.lt
      have zg3 := hB3.lt
      have hb3' : w2.heap.size ≤ g3 := hb3
      refine wpAnyH_all (rs := [4]) (by kernel_rfl) (by simp) ?_
      intro i hi
      obtain rfl : i = 4 := by simpa using hi
      refine wpOp_now rfl (by rfl) ?_
      go_simp
      refine wpAnyH_all (rs := [5]) (by kernel_rfl) (by simp) ?_
      intro i hi
      obtain rfl : i = 5 := by simpa using hi
      refine wpOp_now rfl (by rfl) ?_
      refine wp_append_lies _ _ _ _ (by rfl) wb.heap.size 23 i0 _ 1 24 Try.underlying24 hi0 hz0 hz1 hz2 rfl (by omega) _ hs.length _ (by rfl) (hD3.2.2.1.alloc _) ⟨w3.heap.size, 0, none⟩ 1 1 [.slice (some ⟨g3, 0, none⟩) n3 c3] (by rfl) (by rfl) (World.news_of_block (cs := #[.slice (some ⟨g3, 0, none⟩) n3 c3]) (t := 23) (fr := (0, 0)) (heap_alloc_new w3 _)) (by simp [Value.oneCell']) (by omega) hmax (by omega) (by simp; omega) (w3.heap.size + 1) (by simp) ?_
      intro gg cg w5 hown5 hgr5 hat5 hlt5
      refine ⟨trivial, ?_⟩
      simp only [Act.put, List.setIfInBounds_toArray]
      refine wpAnyH_take (i := 6) (v := .pointer (some ⟨w1.heap.size, 1, none⟩)) rfl (by kernel_rfl) (by kernel_rfl) (by kernel_rfl) (fun _ _ _ h => h) (Or.inl ⟨by rfl, by intro w' _; go_simp⟩) trivial ?_
      refine wpAnyH_all (rs := [7]) (by kernel_rfl) (by simp) ?_
      intro i hi
      obtain rfl : i = 7 := by simpa using hi
      have Bq : Below w3.heap.size w3 (w3.alloc (.cells #[.slice (some ⟨g3, 0, none⟩) n3 c3] 23)) := (by repeat (first | exact bw_refl _ | assumption | apply bw_drewN | apply bw_drew | apply bw_alloc | refine bw_set ?_ (by simp) _))
      have Lp5 := lies_grown (Lp3.alloc _) hgr5 (fun e => by have e' : w1.heap.size = gh := Option.some.inj e; omega)
      have Z5' := lies_grown (Z3.alloc _) hgr5 (fun e => by have e' : w.heap.size = gh := Option.some.inj e; omega)
      obtain ⟨d05, d15, f05, f15⟩ := lies2 Lp5
      refine wpOp_now rfl (by rfl) ?_
      go_simp
      refine wpAnyH_done (by kernel_rfl) ?_ _
      simp only [Exit.then]
      have hne3 : ∀ t : LoopT, t.ok wb.heap.size w3 → some t.g ≠ Value.ownBlock (.slice (some ⟨gh, 0, none⟩) hs.length ch) := fun t ht e => by obtain ⟨_, _, _, _, _, _, h7⟩ := ht; exact blk_ne_own h7 hD3.2.2.1 (Option.some.inj e)
      have hggn : gg ≠ w1.heap.size := hat5.elim (fun e => by have e' : gh = gg := Option.some.inj e; omega) (fun e => by omega)
      have O5 : Only w1.heap.size w5 (w5.setCell ⟨w1.heap.size, 1, none⟩ (.slice (some ⟨gg, 0, none⟩) (hs.length + 1) cg)) := (Only.refl w1.heap.size w5).set (.inl rfl) _
      have keep5 : ∀ t : LoopT, t.ok wb.heap.size w3 → t.g ≠ w1.heap.size → t.ok wb.heap.size (w5.setCell ⟨w1.heap.size, 1, none⟩ (.slice (some ⟨gg, 0, none⟩) (hs.length + 1) cg)) := fun t ht hne => ((ht.below Bq).grown hgr5 (hne3 t ht)).only' O5 hne
      have hr5 := own_only' hown5 O5 (fun e => hggn (Option.some.inj e))
      have hD4 : PlD wb.heap.size (w5.setCell ⟨w1.heap.size, 1, none⟩ (.slice (some ⟨gg, 0, none⟩) (hs.length + 1) cg)) ⟨g, n, c, l⟩ (.slice (some ⟨gg, 0, none⟩) (hs.length + 1) cg) (hs ++ [(⟨g3, n3, c3, l3⟩ : LoopT)]) := by
        refine ⟨keep5 _ hD3.1 (by show g ≠ _; omega), by simp; omega, by simpa [LoopT.v] using hr5, fun t ht => ?_⟩
        rcases List.mem_append.1 ht with h | h
        · exact keep5 t (hD3.2.2.2 t h) (Nat.ne_of_lt (hgs t h))
        · obtain rfl : t = ⟨g3, n3, c3, l3⟩ := by simpa using h
          exact keep5 _ ⟨h3, by show n3 ≤ 8; omega, hl3, hc3, hm3, by show wb.heap.size ≤ g3; omega, hB3⟩ (by show g3 ≠ _; omega)
      have P4 := ((P3.trans (Only.of_below Bq)).grown hgr5 (fun j e => by have e' : gh = j := Option.some.inj e; omega)).set (p := ⟨w1.heap.size, 1, none⟩) (.inr (by show wb.heap.size ≤ w1.heap.size; omega)) (.slice (some ⟨gg, 0, none⟩) (hs.length + 1) cg)
      have KK := K.trans (P4.below' (B := w.heap.size) (by omega) (by omega))
      have L4 := lies_set1 (z := .slice (some ⟨gg, 0, none⟩) (hs.length + 1) cg) Lp5
      have Z4 : Lies w.heap.size #[.slice none 0 0, .slice none 0 0] 26 (w5.setCell ⟨w1.heap.size, 1, none⟩ (.slice (some ⟨gg, 0, none⟩) (hs.length + 1) cg)) := set_oth Z5' (by omega)
      clear hown5 hgr5 hat5 hlt5 keep5 hr5 O5 hne3 hD3 Lp3 Z3 R3 P3 Lp5 Z5' d03 d13 f03 f13 d05 d15 f05 f15 Bq hB3 O3 hX PD ZD LpD hDD
      generalize w5.setCell ⟨w1.heap.size, 1, none⟩ (.slice (some ⟨gg, 0, none⟩) (hs.length + 1) cg) = x4 at *
      clear y0 y1 yf0 yf1 d0 d1 f0 f1
      obtain ⟨d0, d1, f0, f1⟩ := lies2 L4
      obtain ⟨y0, y1, yf0, yf1⟩ := lies2 Z4
      have Z5 := setB2 (u0 := .slice (some ⟨g, 0, none⟩) n c) (u1 := .slice (some ⟨gg, 0, none⟩) (hs.length + 1) cg) Z4
      obtain ⟨v0, v1, _, _⟩ := lies2 Z5
      go_wp2_with fail
      refine bodyPost_ret (v := .agg #[.slice (some ⟨g, 0, none⟩) n c, .slice (some ⟨gg, 0, none⟩) (hs.length + 1) cg]) (by simp [results, Try.results10, go_sem, v0, v1]) rfl ?_
      exact ⟨⟨g, n, c, l⟩, _, hs ++ [(⟨g3, n3, c3, l3⟩ : LoopT)], rfl, ((hD4.set (by omega) _).set (by omega) _).mono (by omega), ⟨by simp; omega, ⟨_, _, _, rfl⟩⟩, (KK.setCell (p := ⟨w.heap.size, 0, none⟩) (Nat.le_refl _) _).setCell (p := ⟨w.heap.size, 1, none⟩) (Nat.le_refl _) _⟩
    · skip
      refine wpOp_now rfl (by rfl) ?_
      go_simp
      refine hX.mono ?_
      rintro e w3 ⟨g3, n3, c3, l3, k3, rfl, h3, h7, hl3, hc3, hm3, hb3, hB3, hk3, R3, O3⟩
      have P3 := PD.trans O3
      have Z3 : Lies w.heap.size #[.slice none 0 0, .slice none 0 0] 26 w3 := keepO O3 ZD (by omega)
      have Lp3 : Lies w1.heap.size #[.slice (some ⟨g, 0, none⟩) n c, .slice (some ⟨gh, 0, none⟩) hs.length ch] 26 w3 := keepO O3 LpD (by omega)
      have hD3 := hDD.only O3 (by omega)
      obtain ⟨d03, d13, f03, f13⟩ := lies2 Lp3
      have zz3 := Lp3.lt
      have zr3 := R3.lt
      have zg3 := hB3.lt
      have hb3' : w2.heap.size ≤ g3 := hb3
      refine wpAnyH_all (rs := [1, 4]) (by kernel_rfl) (by simp) ?_
      intro i hi
      have hi' : i = 1 ∨ i = 4 := by simpa using hi
      clear hi
      rcases hi' with rfl | rfl
      · skip
        refine YieldsIf.wpOp (S := fun w' => w' = w3) (v := .slice (some ⟨gh, 0, none⟩) hs.length ch) rfl (Or.inl ⟨by rfl, by rintro w' rfl; go_simp⟩) rfl ⟨trivial, ?_⟩
        refine wpAnyH_all (rs := [4]) (by kernel_rfl) (by simp) ?_
        intro i hi
        obtain rfl : i = 4 := by simpa using hi
        refine wpOp_now rfl (by rfl) ?_
        go_simp
        refine wpAnyH_all (rs := [5]) (by kernel_rfl) (by simp) ?_
        intro i hi
        obtain rfl : i = 5 := by simpa using hi
        refine wpOp_now rfl (by rfl) ?_
        refine wp_append_lies _ _ _ _ (by rfl) wb.heap.size 23 i0 _ 1 24 Try.underlying24 hi0 hz0 hz1 hz2 rfl (by omega) _ hs.length _ (by rfl) (hD3.2.2.1.alloc _) ⟨w3.heap.size, 0, none⟩ 1 1 [.slice (some ⟨g3, 0, none⟩) n3 c3] (by rfl) (by rfl) (World.news_of_block (cs := #[.slice (some ⟨g3, 0, none⟩) n3 c3]) (t := 23) (fr := (0, 0)) (heap_alloc_new w3 _)) (by simp [Value.oneCell']) (by omega) hmax (by omega) (by simp; omega) (w3.heap.size + 1) (by simp) ?_
        intro gg cg w5 hown5 hgr5 hat5 hlt5
        refine ⟨trivial, ?_⟩
        simp only [Act.put, List.setIfInBounds_toArray]
        refine wpAnyH_take (i := 6) (v := .pointer (some ⟨w1.heap.size, 1, none⟩)) rfl (by kernel_rfl) (by kernel_rfl) (by kernel_rfl) (fun _ _ _ h => h) (Or.inl ⟨by rfl, by intro w' _; go_simp⟩) trivial ?_
        refine wpAnyH_all (rs := [7]) (by kernel_rfl) (by simp) ?_
        intro i hi
        obtain rfl : i = 7 := by simpa using hi
        have Bq : Below w3.heap.size w3 (w3.alloc (.cells #[.slice (some ⟨g3, 0, none⟩) n3 c3] 23)) := (by repeat (first | exact bw_refl _ | assumption | apply bw_drewN | apply bw_drew | apply bw_alloc | refine bw_set ?_ (by simp) _))
        have Lp5 := lies_grown (Lp3.alloc _) hgr5 (fun e => by have e' : w1.heap.size = gh := Option.some.inj e; omega)
        have Z5' := lies_grown (Z3.alloc _) hgr5 (fun e => by have e' : w.heap.size = gh := Option.some.inj e; omega)
        obtain ⟨d05, d15, f05, f15⟩ := lies2 Lp5
        refine wpOp_now rfl (by rfl) ?_
        go_simp
        refine wpAnyH_done (by kernel_rfl) ?_ _
        simp only [Exit.then]
        have hne3 : ∀ t : LoopT, t.ok wb.heap.size w3 → some t.g ≠ Value.ownBlock (.slice (some ⟨gh, 0, none⟩) hs.length ch) := fun t ht e => by obtain ⟨_, _, _, _, _, _, h7⟩ := ht; exact blk_ne_own h7 hD3.2.2.1 (Option.some.inj e)
        have hggn : gg ≠ w1.heap.size := hat5.elim (fun e => by have e' : gh = gg := Option.some.inj e; omega) (fun e => by omega)
        have O5 : Only w1.heap.size w5 (w5.setCell ⟨w1.heap.size, 1, none⟩ (.slice (some ⟨gg, 0, none⟩) (hs.length + 1) cg)) := (Only.refl w1.heap.size w5).set (.inl rfl) _
        have keep5 : ∀ t : LoopT, t.ok wb.heap.size w3 → t.g ≠ w1.heap.size → t.ok wb.heap.size (w5.setCell ⟨w1.heap.size, 1, none⟩ (.slice (some ⟨gg, 0, none⟩) (hs.length + 1) cg)) := fun t ht hne => ((ht.below Bq).grown hgr5 (hne3 t ht)).only' O5 hne
        have hr5 := own_only' hown5 O5 (fun e => hggn (Option.some.inj e))
        have hD4 : PlD wb.heap.size (w5.setCell ⟨w1.heap.size, 1, none⟩ (.slice (some ⟨gg, 0, none⟩) (hs.length + 1) cg)) ⟨g, n, c, l⟩ (.slice (some ⟨gg, 0, none⟩) (hs.length + 1) cg) (hs ++ [(⟨g3, n3, c3, l3⟩ : LoopT)]) := by
          refine ⟨keep5 _ hD3.1 (by show g ≠ _; omega), by simp; omega, by simpa [LoopT.v] using hr5, fun t ht => ?_⟩
          rcases List.mem_append.1 ht with h | h
          · exact keep5 t (hD3.2.2.2 t h) (Nat.ne_of_lt (hgs t h))
          · obtain rfl : t = ⟨g3, n3, c3, l3⟩ := by simpa using h
            exact keep5 _ ⟨h3, by show n3 ≤ 8; omega, hl3, hc3, hm3, by show wb.heap.size ≤ g3; omega, hB3⟩ (by show g3 ≠ _; omega)
        have P4 := ((P3.trans (Only.of_below Bq)).grown hgr5 (fun j e => by have e' : gh = j := Option.some.inj e; omega)).set (p := ⟨w1.heap.size, 1, none⟩) (.inr (by show wb.heap.size ≤ w1.heap.size; omega)) (.slice (some ⟨gg, 0, none⟩) (hs.length + 1) cg)
        have KK := K.trans (P4.below' (B := w.heap.size) (by omega) (by omega))
        have L4 := lies_set1 (z := .slice (some ⟨gg, 0, none⟩) (hs.length + 1) cg) Lp5
        have Z4 : Lies w.heap.size #[.slice none 0 0, .slice none 0 0] 26 (w5.setCell ⟨w1.heap.size, 1, none⟩ (.slice (some ⟨gg, 0, none⟩) (hs.length + 1) cg)) := set_oth Z5' (by omega)
        clear hown5 hgr5 hat5 hlt5 keep5 hr5 O5 hne3 hD3 Lp3 Z3 R3 P3 Lp5 Z5' d03 d13 f03 f13 d05 d15 f05 f15 Bq hB3 O3 hX PD ZD LpD hDD
        generalize w5.setCell ⟨w1.heap.size, 1, none⟩ (.slice (some ⟨gg, 0, none⟩) (hs.length + 1) cg) = x4 at *
        clear y0 y1 yf0 yf1 d0 d1 f0 f1
        obtain ⟨d0, d1, f0, f1⟩ := lies2 L4
        obtain ⟨y0, y1, yf0, yf1⟩ := lies2 Z4
        have Z5 := setB2 (u0 := .slice (some ⟨g, 0, none⟩) n c) (u1 := .slice (some ⟨gg, 0, none⟩) (hs.length + 1) cg) Z4
        obtain ⟨v0, v1, _, _⟩ := lies2 Z5
        go_wp2_with fail
        refine bodyPost_ret (v := .agg #[.slice (some ⟨g, 0, none⟩) n c, .slice (some ⟨gg, 0, none⟩) (hs.length + 1) cg]) (by simp [results, Try.results10, go_sem, v0, v1]) rfl ?_
        exact ⟨⟨g, n, c, l⟩, _, hs ++ [(⟨g3, n3, c3, l3⟩ : LoopT)], rfl, ((hD4.set (by omega) _).set (by omega) _).mono (by omega), ⟨by simp; omega, ⟨_, _, _, rfl⟩⟩, (KK.setCell (p := ⟨w.heap.size, 0, none⟩) (Nat.le_refl _) _).setCell (p := ⟨w.heap.size, 1, none⟩) (Nat.le_refl _) _⟩
      · skip
        refine wpOp_now rfl (by rfl) ?_
        go_simp
        refine wpAnyH_all (rs := [1]) (by kernel_rfl) (by simp) ?_
        intro i hi
        obtain rfl : i = 1 := by simpa using hi
        refine YieldsIf.wpOp (S := fun w' => w' = w3.alloc (.cells #[.slice (some ⟨g3, 0, none⟩) n3 c3] 23)) (v := .slice (some ⟨gh, 0, none⟩) hs.length ch) rfl (Or.inl ⟨by rfl, by rintro w' rfl; go_simp⟩) rfl ⟨trivial, ?_⟩
        refine wpAnyH_all (rs := [5]) (by kernel_rfl) (by simp) ?_
        intro i hi
        obtain rfl : i = 5 := by simpa using hi
        refine wpOp_now rfl (by rfl) ?_
        refine wp_append_lies _ _ _ _ (by rfl) wb.heap.size 23 i0 _ 1 24 Try.underlying24 hi0 hz0 hz1 hz2 rfl (by omega) _ hs.length _ (by rfl) (hD3.2.2.1.alloc _) ⟨w3.heap.size, 0, none⟩ 1 1 [.slice (some ⟨g3, 0, none⟩) n3 c3] (by rfl) (by rfl) (World.news_of_block (cs := #[.slice (some ⟨g3, 0, none⟩) n3 c3]) (t := 23) (fr := (0, 0)) (heap_alloc_new w3 _)) (by simp [Value.oneCell']) (by omega) hmax (by omega) (by simp; omega) (w3.heap.size + 1) (by simp) ?_
        intro gg cg w5 hown5 hgr5 hat5 hlt5
        refine ⟨trivial, ?_⟩
        simp only [Act.put, List.setIfInBounds_toArray]
        refine wpAnyH_take (i := 6) (v := .pointer (some ⟨w1.heap.size, 1, none⟩)) rfl (by kernel_rfl) (by kernel_rfl) (by kernel_rfl) (fun _ _ _ h => h) (Or.inl ⟨by rfl, by intro w' _; go_simp⟩) trivial ?_
        refine wpAnyH_all (rs := [7]) (by kernel_rfl) (by simp) ?_
        intro i hi
        obtain rfl : i = 7 := by simpa using hi
        have Bq : Below w3.heap.size w3 (w3.alloc (.cells #[.slice (some ⟨g3, 0, none⟩) n3 c3] 23)) := (by repeat (first | exact bw_refl _ | assumption | apply bw_drewN | apply bw_drew | apply bw_alloc | refine bw_set ?_ (by simp) _))
        have Lp5 := lies_grown (Lp3.alloc _) hgr5 (fun e => by have e' : w1.heap.size = gh := Option.some.inj e; omega)
        have Z5' := lies_grown (Z3.alloc _) hgr5 (fun e => by have e' : w.heap.size = gh := Option.some.inj e; omega)
        obtain ⟨d05, d15, f05, f15⟩ := lies2 Lp5
        refine wpOp_now rfl (by rfl) ?_
        go_simp
        refine wpAnyH_done (by kernel_rfl) ?_ _
        simp only [Exit.then]
        have hne3 : ∀ t : LoopT, t.ok wb.heap.size w3 → some t.g ≠ Value.ownBlock (.slice (some ⟨gh, 0, none⟩) hs.length ch) := fun t ht e => by obtain ⟨_, _, _, _, _, _, h7⟩ := ht; exact blk_ne_own h7 hD3.2.2.1 (Option.some.inj e)
        have hggn : gg ≠ w1.heap.size := hat5.elim (fun e => by have e' : gh = gg := Option.some.inj e; omega) (fun e => by omega)
        have O5 : Only w1.heap.size w5 (w5.setCell ⟨w1.heap.size, 1, none⟩ (.slice (some ⟨gg, 0, none⟩) (hs.length + 1) cg)) := (Only.refl w1.heap.size w5).set (.inl rfl) _
        have keep5 : ∀ t : LoopT, t.ok wb.heap.size w3 → t.g ≠ w1.heap.size → t.ok wb.heap.size (w5.setCell ⟨w1.heap.size, 1, none⟩ (.slice (some ⟨gg, 0, none⟩) (hs.length + 1) cg)) := fun t ht hne => ((ht.below Bq).grown hgr5 (hne3 t ht)).only' O5 hne
        have hr5 := own_only' hown5 O5 (fun e => hggn (Option.some.inj e))
        have hD4 : PlD wb.heap.size (w5.setCell ⟨w1.heap.size, 1, none⟩ (.slice (some ⟨gg, 0, none⟩) (hs.length + 1) cg)) ⟨g, n, c, l⟩ (.slice (some ⟨gg, 0, none⟩) (hs.length + 1) cg) (hs ++ [(⟨g3, n3, c3, l3⟩ : LoopT)]) := by
          refine ⟨keep5 _ hD3.1 (by show g ≠ _; omega), by simp; omega, by simpa [LoopT.v] using hr5, fun t ht => ?_⟩
          rcases List.mem_append.1 ht with h | h
          · exact keep5 t (hD3.2.2.2 t h) (Nat.ne_of_lt (hgs t h))
          · obtain rfl : t = ⟨g3, n3, c3, l3⟩ := by simpa using h
            exact keep5 _ ⟨h3, by show n3 ≤ 8; omega, hl3, hc3, hm3, by show wb.heap.size ≤ g3; omega, hB3⟩ (by show g3 ≠ _; omega)
        have P4 := ((P3.trans (Only.of_below Bq)).grown hgr5 (fun j e => by have e' : gh = j := Option.some.inj e; omega)).set (p := ⟨w1.heap.size, 1, none⟩) (.inr (by show wb.heap.size ≤ w1.heap.size; omega)) (.slice (some ⟨gg, 0, none⟩) (hs.length + 1) cg)
        have KK := K.trans (P4.below' (B := w.heap.size) (by omega) (by omega))
        have L4 := lies_set1 (z := .slice (some ⟨gg, 0, none⟩) (hs.length + 1) cg) Lp5
        have Z4 : Lies w.heap.size #[.slice none 0 0, .slice none 0 0] 26 (w5.setCell ⟨w1.heap.size, 1, none⟩ (.slice (some ⟨gg, 0, none⟩) (hs.length + 1) cg)) := set_oth Z5' (by omega)
        clear hown5 hgr5 hat5 hlt5 keep5 hr5 O5 hne3 hD3 Lp3 Z3 R3 P3 Lp5 Z5' d03 d13 f03 f13 d05 d15 f05 f15 Bq hB3 O3 hX PD ZD LpD hDD
        generalize w5.setCell ⟨w1.heap.size, 1, none⟩ (.slice (some ⟨gg, 0, none⟩) (hs.length + 1) cg) = x4 at *
        clear y0 y1 yf0 yf1 d0 d1 f0 f1
        obtain ⟨d0, d1, f0, f1⟩ := lies2 L4
        obtain ⟨y0, y1, yf0, yf1⟩ := lies2 Z4
        have Z5 := setB2 (u0 := .slice (some ⟨g, 0, none⟩) n c) (u1 := .slice (some ⟨gg, 0, none⟩) (hs.length + 1) cg) Z4
        obtain ⟨v0, v1, _, _⟩ := lies2 Z5
        go_wp2_with fail
        refine bodyPost_ret (v := .agg #[.slice (some ⟨g, 0, none⟩) n c, .slice (some ⟨gg, 0, none⟩) (hs.length + 1) cg]) (by simp [results, Try.results10, go_sem, v0, v1]) rfl ?_
        exact ⟨⟨g, n, c, l⟩, _, hs ++ [(⟨g3, n3, c3, l3⟩ : LoopT)], rfl, ((hD4.set (by omega) _).set (by omega) _).mono (by omega), ⟨by simp; omega, ⟨_, _, _, rfl⟩⟩, (KK.setCell (p := ⟨w.heap.size, 0, none⟩) (Nat.le_refl _) _).setCell (p := ⟨w.heap.size, 1, none⟩) (Nat.le_refl _) _⟩
end Go.Proofs.Ythedlopfjlnogaa
namespace Go.Proofs.Ythedlopfjlnogaa
open Go.RowKit Go.Sort

set_option maxRecDepth 100000 in
set_option maxHeartbeats 1000000 in
theorem plateOk_any (a ah : Option Addr) (la ca nh ch : Nat) (o : List P2) (hs : List (List P2)) (w : World) (h : Plt w a la ah nh o hs) :
    Calls Try.prog 11 #[.agg #[.slice a la ca, .slice ah nh ch]] w fun e W' => e = .returned (.bool (plV o hs)) ∧ Below w.heap.size w W' := by
  have B0 : Below w.heap.size w (w.alloc (.cells #[.slice a la ca, .slice ah nh ch] 26)) := (by repeat (first | exact bw_refl _ | assumption | apply bw_drewN | apply bw_drew | apply bw_alloc | refine bw_set ?_ (by simp) _))
  go_enter Try.func11, Try.ntmps11
  go_wp2_with fail
  refine (board_any a ah la ca nh ch o hs _ (h.below B0)).mono ?_
  rintro e w1 ⟨p, rfl, J, _⟩
  go_wp2_with fail
  go_ret
  exact ⟨rfl, bw_trans B0 J⟩
set_option maxRecDepth 100000 in
set_option maxHeartbeats 4000000 in
theorem boardIn_any (b : Nat) (o : RingT) (hs : List RingT) (p : P2) (w : World) (hR : RingL w.heap.size w (some ⟨b, 0, none⟩) (o :: hs)) (hok : ((o :: hs).all fun x => okV x.pts) = true) (hp : ptB p.1 p.2 = true) :
    Calls Try.prog 51 #[.pointer (some ⟨b, 0, none⟩), .agg #[.int .i64 p.1, .int .i64 p.2]] w fun e W' => e = .returned (.int .i64 (plI o.pts (hs.map RingT.pts) p)) ∧ Below w.heap.size w W' := by
  obtain ⟨b0, q0, t0, e0, ob, ol, oP, hR⟩ := hR
  cases e0
  rw [List.all_cons, Bool.and_eq_true] at hok
  have B0 : Below w.heap.size w (w.alloc (.cells #[.int .i64 p.1, .int .i64 p.2] 33)) := (by repeat (first | exact bw_refl _ | assumption | apply bw_drewN | apply bw_drew | apply bw_alloc | refine bw_set ?_ (by simp) _))
  obtain ⟨W, hW, BW, T⟩ : ∃ W, W = w.alloc (.cells #[.int .i64 p.1, .int .i64 p.2] 33) ∧ Below w.heap.size w W ∧ W.heap[w.heap.size]? = some (.cells #[.int .i64 p.1, .int .i64 p.2] 33) := ⟨_, rfl, (by repeat (first | exact bw_refl _ | assumption | apply bw_drewN | apply bw_drew | apply bw_alloc | refine bw_set ?_ (by simp) _)), heap_new _ _⟩
  have hpl : Hid (plI o.pts (hs.map RingT.pts) p = hs.foldl (fun s x => min s (-(inI x.pts p))) (inI o.pts p)) := by change _ = _; unfold plI; rw [List.foldl_map]
  have hall : Hid (∀ x ∈ hs, okV x.pts = true) := List.all_eq_true.1 hok.2
  have HW : Hid (∀ d os, Calls Try.prog 49 #[.slice o.a o.len o.cap, .agg #[.int .i64 p.1, .int .i64 p.2]] (grow (redrawn W d) os) fun e W' => e = .returned (.int .i64 (inI o.pts p)) ∧ Below (grow (redrawn W d) os).heap.size (grow (redrawn W d) os) W') := fun d os =>
    where_any o.a o.len o.cap o.pts p ol hok.1 hp _ ((oP.below (bw_trans BW (below_regrown W d os))).grow (bw_trans BW (below_regrown W d os)).size)
  obtain ⟨o0, o1, _, _⟩ := lies2 (ob.below BW)
  have o0' := cell_regrown o0
  obtain ⟨t0', t1'⟩ := reg_2 T
  have h3 := inI_3 o.pts p
  have hR1 := (hR.below BW (Nat.le_refl _)).grow BW.size
  have ob1 := ob.below BW
  clear o0 o1 hok
  generalize inI o.pts p = u0 at *
  go_enter Try.func51, Try.ntmps51
  go_upto_region 1 with fail
  rw [← hW]
  clear hW
  refine wp_region_quiet_below (by kernel_rfl) (by kernel_rfl) ?_
  repeat (first | go_big_quiet_step (first | (go_at_call 49; with_reducible exact Calls.regrown_of (HW.out _ _))))
  refine wpQuiet_nil ?_
  intro _ hw'
  obtain ⟨⟨dq, osq⟩, hw''⟩ := hw'
  subst hw''
  have J := below_regrown W dq osq
  generalize grow (redrawn W dq) osq = v at J ⊢
  obtain ⟨o0, o1, _, _⟩ := lies2 (ob1.below J)
  have K := bw_trans BW J
  replace T := keep J T
  have hR2 := (hR1.below J (Nat.le_refl _)).grow J.size
  clear HW t0' t1' o0' hR1 hR
  go_wp2_with fail
  go_loopw [5, 6] (fun s q wr => ∃ (u : Int) (q' : Option Addr) (rest : List RingT), s = .int .i64 u ∧ q = .pointer q' ∧ (-1 ≤ u ∧ u ≤ 1) ∧ RingL wr.heap.size wr q' rest ∧ (∀ x ∈ rest, okV x.pts = true) ∧ hs.foldl (fun s x => min s (-(inI x.pts p))) u0 = rest.foldl (fun s x => min s (-(inI x.pts p))) u ∧ Below v.heap.size v wr) (fun _ q wr => ringsLeft wr q)
  case atStart => exact ⟨u0, q0, hs, rfl, rfl, by omega, hR2, hall.out, rfl, bw_refl _⟩
  case round =>
    obtain ⟨u, q', rest, rfl, rfl, hu, hL, hak, he, hnx⟩ := hrel
    cases rest with
    | nil =>
      obtain rfl : q' = none := hL
      have e1 : Hid (plI o.pts (hs.map RingT.pts) p = u) := by change _ = _; rw [hpl.out, he]; rfl
      clear he
      go_wp2_with fail
      go_ret
      exact ⟨ret_int e1.out.symm, bw_trans K hnx⟩
    | cons y ys =>
      have hL' := hL
      obtain ⟨b1, q1, t1, rfl, hb, hlen, hP, hr⟩ := hL
      obtain ⟨d0, d1, _, _⟩ := lies2 hb
      have d0' := cell_regrown d0
      have d1' := cell_regrown d1
      obtain ⟨t0', t1'⟩ := reg_2 (keep hnx T)
      have y3 := inI_3 y.pts p
      have HW : Hid (∀ d os, Calls Try.prog 49 #[.slice y.a y.len y.cap, .agg #[.int .i64 p.1, .int .i64 p.2]] (grow (redrawn wr d) os) fun e W' => e = .returned (.int .i64 (inI y.pts p)) ∧ Below (grow (redrawn wr d) os).heap.size (grow (redrawn wr d) os) W') := fun d os =>
        where_any y.a y.len y.cap y.pts p hlen (hak y (by simp)) hp _ ((hP.below (below_regrown wr d os)).grow (below_regrown wr d os).size)
      have he1 : Hid (hs.foldl (fun s x => min s (-(inI x.pts p))) u0 = ys.foldl (fun s x => min s (-(inI x.pts p))) (min u (-(inI y.pts p)))) := he
      clear he
      generalize inI y.pts p = u1 at *
      have nu : IntKind.i64.wrap (-u1) = -u1 := wrap_small (by omega) (by omega)
      clear d0 d1
      by_cases hm : -u1 < u
      · have hmin : min u (-u1) = -u1 := by omega
        go_wp2_with fail
        refine wp_region_quiet_below (by kernel_rfl) (by kernel_rfl) ?_
        repeat (first | go_big_quiet_step (first | (go_at_call 49; with_reducible exact Calls.regrown_of (HW.out _ _))))
        refine wpQuiet_nil ?_
        intro _ hw'
        obtain ⟨⟨dq, osq⟩, hw''⟩ := hw'
        subst hw''
        have J := below_regrown wr dq osq
        generalize grow (redrawn wr dq) osq = v2 at J ⊢
        obtain ⟨d0, d1, _, _⟩ := lies2 (hb.below J)
        go_wp2_with fail
        go_roundw
        case rel => exact ⟨-u1, q1, ys, rfl, rfl, by omega, (hr.below J (Nat.le_refl _)).grow J.size, fun x hx => hak x (by simp [hx]), by rw [he1.out, hmin], bw_trans hnx J⟩
        case measure => rw [ringsLeft_eq (hr.below J (Nat.le_refl _)), ringsLeft_eq hL']; simp
      · have hmin : min u (-u1) = u := by omega
        go_wp2_with fail
        refine wp_region_quiet_below (by kernel_rfl) (by kernel_rfl) ?_
        repeat (first | go_big_quiet_step (first | (go_at_call 49; with_reducible exact Calls.regrown_of (HW.out _ _))))
        refine wpQuiet_nil ?_
        intro _ hw'
        obtain ⟨⟨dq, osq⟩, hw''⟩ := hw'
        subst hw''
        have J := below_regrown wr dq osq
        generalize grow (redrawn wr dq) osq = v2 at J ⊢
        obtain ⟨d0, d1, _, _⟩ := lies2 (hb.below J)
        go_wp2_with fail
        go_roundw
        case rel => exact ⟨u, q1, ys, rfl, rfl, by omega, (hr.below J (Nat.le_refl _)).grow J.size, fun x hx => hak x (by simp [hx]), by rw [he1.out, hmin], bw_trans hnx J⟩
        case measure => rw [ringsLeft_eq (hr.below J (Nat.le_refl _)), ringsLeft_eq hL']; simp
set_option maxRecDepth 100000 in
set_option maxHeartbeats 1000000 in
theorem plateIn_any (a ah : Option Addr) (la ca nh ch : Nat) (o : List P2) (hs : List (List P2)) (p : P2) (w : World) (h : Plt w a la ah nh o hs) :
    Calls Try.prog 17 #[.agg #[.slice a la ca, .slice ah nh ch], .agg #[.int .i64 p.1, .int .i64 p.2]] w fun e W' => e = .returned (.int .i64 (plInV o hs p)) ∧ Below w.heap.size w W' := by
  obtain ⟨W, hW, BW, TP, T⟩ := boxes2 w (.cells #[.slice a la ca, .slice ah nh ch] 26) (.cells #[.int .i64 p.1, .int .i64 p.2] 33)
  have hh := h.below BW
  obtain ⟨t0, t1⟩ := blk_2 TP
  have zP := blk_lt TP
  cases hv : plV o hs
  · have e1 : Hid (plInV o hs p = -1) := by change _ = _; unfold plInV; rw [hv]; rfl
    go_enter Try.func17, Try.ntmps17
    go_upto_region 1 with fail
    rw [← hW]
    clear hW
    go_wp2_with fail
    refine (board_any a ah la ca nh ch o hs _ hh).mono ?_
    rw [hv]
    rintro e w1 ⟨q, rfl, J, _⟩
    go_wp2_with fail
    go_ret
    exact ⟨ret_int e1.out.symm, bw_trans BW J⟩
  cases hp : ptB p.1 p.2
  · have e1 : Hid (plInV o hs p = -1) := by change _ = _; unfold plInV; rw [hv, hp]; rfl
    go_enter Try.func17, Try.ntmps17
    go_upto_region 1 with fail
    rw [← hW]
    clear hW
    go_wp2_with fail
    refine (board_any a ah la ca nh ch o hs _ hh).mono ?_
    rw [hv]
    rintro e w1 ⟨q, rfl, J, _⟩
    replace T := keep J T
    clear t0 t1
    obtain ⟨t0, t1⟩ := blk_2 T
    go_wp2_with fail
    refine (pt_raw p _).mono ?_
    rw [hp]
    rintro e w2 ⟨rfl, J2⟩
    go_wp2_with fail
    go_ret
    exact ⟨ret_int e1.out.symm, bw_trans (bw_trans BW J) J2⟩
  · have e1 : Hid (plInV o hs p = plI o hs p) := by change _ = _; unfold plInV; rw [hv, hp]; rfl
    have L := (plV_iff o hs).1 hv
    go_enter Try.func17, Try.ntmps17
    go_upto_region 1 with fail
    rw [← hW]
    clear hW
    go_wp2_with fail
    refine (board_any a ah la ca nh ch o hs _ hh).mono ?_
    rintro e w1 ⟨q, rfl, J, hR⟩
    obtain ⟨b, xs, rfl, hR, hx⟩ := hR hv
    rw [hv]
    replace T := keep J T
    clear t0 t1
    obtain ⟨t0, t1⟩ := blk_2 T
    go_wp2_with fail
    refine (pt_raw p _).mono ?_
    rw [hp]
    rintro e w2 ⟨rfl, J2⟩
    replace T := keep J2 T
    clear t0 t1
    obtain ⟨t0, t1⟩ := blk_2 T
    have hall : ((⟨a, la, ca, o⟩ :: xs : List RingT).all fun x => okV x.pts) = true := by
      rw [List.all_eq_true]
      intro x hx'
      rcases List.mem_cons.1 hx' with e | e
      · subst e; exact L.out
      · exact L.ok _ (by rw [← hx]; exact List.mem_map.2 ⟨x, e, rfl⟩)
    go_wp2_with fail
    refine (boardIn_any b ⟨a, la, ca, o⟩ xs p w2 ((hR.below J2 (Nat.le_refl _)).grow J2.size) hall hp).mono ?_
    rw [hx]
    rintro e w3 ⟨rfl, J3⟩
    go_wp2_with fail
    go_ret
    exact ⟨ret_int e1.out.symm, bw_trans (bw_trans (bw_trans BW J) J2) J3⟩
end Go.Proofs.Ythedlopfjlnogaa
namespace Go.Proofs.Ythedlopfjlnogaa
open Go.RowKit Go.Sort

theorem foldl_take_succ {α β : Type} (f : β → α → β) (l : List α) (d : α) (s : β) (k : Nat) (hk : k < l.length) : (l.take (k + 1)).foldl f s = f ((l.take k).foldl f s) (l[k]?.getD d) := by
  rw [List.take_add_one, List.foldl_append]; simp [hk]
theorem plI_bd (o : List P2) (hs : List (List P2)) (p : P2) : -1 ≤ plI o hs p ∧ plI o hs p ≤ 1 := by
  unfold plI
  have : ∀ (hs : List (List P2)) (s : Int), -1 ≤ s ∧ s ≤ 1 → -1 ≤ hs.foldl (fun s h => min s (-(inI h p))) s ∧ hs.foldl (fun s h => min s (-(inI h p))) s ≤ 1 := by
    intro hs
    induction hs with
    | nil => intro s h; exact h
    | cons x xs ih => intro s h; exact ih _ (by dsimp only; have := inI_3 x p; omega)
  exact this hs _ (by have := inI_3 o p; omega)
set_option maxRecDepth 100000 in
set_option maxHeartbeats 4000000 in
theorem sPlI_ok (a ah : Option Addr) (la ca nh ch : Nat) (o : List P2) (hs : List (List P2)) (p : P2) (hv : plV o hs = true) (hp : ptB p.1 p.2 = true) (w : World) (h : Plt w a la ah nh o hs) :
    Calls Try.prog 52 #[.agg #[.slice a la ca, .slice ah nh ch], .agg #[.int .i64 p.1, .int .i64 p.2]] w fun e W' => e = .returned (.int .i64 (plI o hs p)) ∧ Below w.heap.size w W' := by
  obtain ⟨W, hW, BW, TP, T⟩ := boxes2 w (.cells #[.slice a la ca, .slice ah nh ch] 26) (.cells #[.int .i64 p.1, .int .i64 p.2] 33)
  have hPV := (plV_iff o hs).1 hv
  obtain ⟨hla, hP, hlen, A, L, C, hS, hH⟩ := h.below BW
  have HO := sInI_pts a la ca o p hPV.out hp W hP
  have HOK : Hid (∀ j, j < nh → okV (hs[j]?.getD []) = true) := fun j hj => hPV.ok _ (by rw [List.getElem?_eq_getElem (by omega), Option.getD_some]; exact List.getElem_mem _)
  have HL : Hid (hs.length = nh) := hlen
  have H0 : Hid (plI o (hs.take 0) p = inI o p) := rfl
  have HN : Hid (plI o (hs.take nh) p = plI o hs p) := by change _ = _; rw [← hlen, List.take_length]
  have HS : Hid (∀ k, k < nh → plI o (hs.take (k + 1)) p = min (plI o (hs.take k) p) (-(inI (hs[k]?.getD []) p))) := fun k hk => by
    unfold plI; exact foldl_take_succ _ hs [] _ k (by omega)
  have hnh : nh ≤ 2 := by have := hPV.len; omega
  clear hlen hPV hv h
  obtain ⟨t0, t1⟩ := blk_2 TP
  obtain ⟨u0, u1⟩ := blk_2 T
  have zP := blk_lt TP
  go_enter Try.func52, Try.ntmps52
  go_upto_region 1 with fail
  rw [← hW]
  clear hW
  go_wp2_with (go_at_call 44; refine HO.mono ?_; rintro e v ⟨rfl, J⟩)
  have K := bw_trans BW J
  replace TP := keep J TP
  replace T := keep J T
  replace hS := (hS.below J).grow J.size
  replace hH : ∀ j, j < nh → L j ≤ 1048576 ∧ Pts v.heap.size v (A j) (L j) (hs[j]?.getD []) := fun j hj => ⟨(hH j hj).1, ((hH j hj).2.below J).grow J.size⟩
  clear HO t0 t1 u0 u1 J zP
  go_loopw [5, 6] (fun s i wr => ∃ k : Nat, k ≤ nh ∧ i = .int .i64 k ∧ s = .int .i64 (plI o (hs.take k) p) ∧ Below v.heap.size v wr) (fun _ i _ => nh - (intOf i).toNat)
  case atStart => exact ⟨0, Nat.zero_le _, rfl, by rw [H0.out], bw_refl _⟩
  case round =>
    obtain ⟨k, hk, rfl, rfl, hnx⟩ := hrel
    have hbd := plI_bd o (hs.take k) p
    obtain ⟨t0, t1⟩ := blk_2 (keep hnx TP)
    have zT := blk_lt (keep hnx TP)
    by_cases hlt : k < nh
    case neg =>
      obtain rfl : k = nh := by omega
      rw [HN.out]
      go_wp2_with fail
      go_ret
      exact ⟨rfl, bw_trans K hnx⟩
    case pos =>
      rcases hS.below hnx with h0 | ⟨b, off, rfl, hbl, hcs⟩
      · omega
      have c0 := cell_regrown (hcs k hlt)
      clear hcs
      have i0 : (0 : Int) ≤ (k : Int) := Int.natCast_nonneg _
      have i1 : (k : Int) < (nh : Int) := by omega
      obtain ⟨hLk, hPk⟩ := hH k hlt
      have hokk := HOK.out k hlt
      have hst := HS.out k hlt
      have hPkw := (hPk.below hnx).grow hnx.size
      have y3 := inI_3 (hs[k]?.getD []) p
      have HW : Hid (∀ d os, Calls Try.prog 44 #[.slice (A k) (L k) (C k), .agg #[.int .i64 p.1, .int .i64 p.2]] (grow (redrawn wr d) os) fun e W' => e = .returned (.int .i64 (inI (hs[k]?.getD []) p)) ∧ Below (grow (redrawn wr d) os).heap.size (grow (redrawn wr d) os) W') := fun d os =>
        sInI_pts (A k) (L k) (C k) _ p hokk hp _ ((hPkw.below (below_regrown wr d os)).grow (below_regrown wr d os).size)
      obtain ⟨t0r, t1r⟩ := reg_2 (keep hnx TP)
      obtain ⟨u0r, u1r⟩ := reg_2 (keep hnx T)
      have hst' : Hid (plI o (hs.take (k + 1)) p = min (plI o (hs.take k) p) (-(inI (hs[k]?.getD []) p))) := hst
      clear hst hokk hPk hPkw
      generalize inI (hs[k]?.getD []) p = u1 at *
      generalize plI o (hs.take k) p = u at *
      have nu : IntKind.i64.wrap (-u1) = -u1 := wrap_small (by omega) (by omega)
      by_cases hm : -u1 < u
      · have hmin : min u (-u1) = -u1 := by omega
        go_wp2_with fail
        refine wp_region_quiet_below (by kernel_rfl) (by kernel_rfl) ?_
        repeat (first | go_big_quiet_step (first | (go_at_call 44; with_reducible exact Calls.regrown_of (HW.out _ _))))
        refine wpQuiet_nil ?_
        intro _ hw'
        obtain ⟨⟨dq, osq⟩, hw''⟩ := hw'
        subst hw''
        have J := below_regrown wr dq osq
        generalize grow (redrawn wr dq) osq = v2 at J ⊢
        go_wp2_with fail
        go_roundw
        case rel => exact ⟨k + 1, by omega, by simp, by rw [hst'.out, hmin], bw_trans hnx J⟩
        case measure => simp [intOf]; omega
      · have hmin : min u (-u1) = u := by omega
        go_wp2_with fail
        refine wp_region_quiet_below (by kernel_rfl) (by kernel_rfl) ?_
        repeat (first | go_big_quiet_step (first | (go_at_call 44; with_reducible exact Calls.regrown_of (HW.out _ _))))
        refine wpQuiet_nil ?_
        intro _ hw'
        obtain ⟨⟨dq, osq⟩, hw''⟩ := hw'
        subst hw''
        have J := below_regrown wr dq osq
        generalize grow (redrawn wr dq) osq = v2 at J ⊢
        go_wp2_with fail
        go_roundw
        case rel => exact ⟨k + 1, by omega, by simp, by rw [hst'.out, hmin], bw_trans hnx J⟩
        case measure => simp [intOf]; omega
set_option maxRecDepth 100000 in
set_option maxHeartbeats 1000000 in
theorem sPlateIn_any (a ah : Option Addr) (la ca nh ch : Nat) (o : List P2) (hs : List (List P2)) (p : P2) (w : World) (h : Plt w a la ah nh o hs) :
    Calls Try.prog 18 #[.agg #[.slice a la ca, .slice ah nh ch], .agg #[.int .i64 p.1, .int .i64 p.2]] w fun e W' => e = .returned (.int .i64 (plInV o hs p)) ∧ Below w.heap.size w W' := by
  obtain ⟨W, hW, BW, TP, T⟩ := boxes2 w (.cells #[.slice a la ca, .slice ah nh ch] 26) (.cells #[.int .i64 p.1, .int .i64 p.2] 33)
  have hh := h.below BW
  obtain ⟨t0, t1⟩ := blk_2 TP
  have zP := blk_lt TP
  have hcall := sPlateOk_any a ah la ca nh ch o hs W hh
  cases hv : plV o hs
  · rw [hv] at hcall
    have e1 : Hid (plInV o hs p = -1) := by change _ = _; unfold plInV; rw [hv]; rfl
    go_enter Try.func18, Try.ntmps18
    go_upto_region 1 with fail
    rw [← hW]
    clear hW
    go_wp2_with (go_at_call 12; refine hcall.mono ?_; rintro e w1 ⟨rfl, J⟩)
    go_ret
    exact ⟨ret_int e1.out.symm, bw_trans BW J⟩
  rw [hv] at hcall
  cases hp : ptB p.1 p.2
  · have e1 : Hid (plInV o hs p = -1) := by change _ = _; unfold plInV; rw [hv, hp]; rfl
    go_enter Try.func18, Try.ntmps18
    go_upto_region 1 with fail
    rw [← hW]
    clear hW
    go_wp2_with (go_at_call 12; refine hcall.mono ?_; rintro e w1 ⟨rfl, J⟩; obtain ⟨s0, s1⟩ := blk_2 (keep J T))
    refine (sPt_raw p _).mono ?_
    rw [hp]
    rintro e w2 ⟨rfl, J2⟩
    go_wp2_with fail
    go_ret
    exact ⟨ret_int e1.out.symm, bw_trans (bw_trans BW J) J2⟩
  · have e1 : Hid (plInV o hs p = plI o hs p) := by change _ = _; unfold plInV; rw [hv, hp]; rfl
    go_enter Try.func18, Try.ntmps18
    go_upto_region 1 with fail
    rw [← hW]
    clear hW
    go_wp2_with (go_at_call 12; refine hcall.mono ?_; rintro e w1 ⟨rfl, J⟩; obtain ⟨s0, s1⟩ := blk_2 (keep J T))
    refine (sPt_raw p _).mono ?_
    rw [hp]
    rintro e w2 ⟨rfl, J2⟩
    have J3 := bw_trans J J2
    clear s0 s1 t0 t1
    obtain ⟨s0, s1⟩ := blk_2 (keep J3 T)
    obtain ⟨t0, t1⟩ := blk_2 (keep J3 TP)
    go_wp2_with fail
    refine (sPlI_ok a ah la ca nh ch o hs p hv hp w2 (hh.below J3)).mono ?_
    rintro e w3 ⟨rfl, J4⟩
    go_wp2_with fail
    go_ret
    exact ⟨ret_int e1.out.symm, bw_trans (bw_trans BW J3) J4⟩
end Go.Proofs.Ythedlopfjlnogaa
namespace Go.Proofs.Ythedlopfjlnogaa

/-- As many times as large. -/
def sc (K : Int) (p : P2) : P2 := (K * p.1, K * p.2)
theorem crs_sc (K : Int) (a b c : P2) : crs (sc K a).1 (sc K a).2 (sc K b).1 (sc K b).2 (sc K c).1 (sc K c).2 = K * K * crs a.1 a.2 b.1 b.2 c.1 c.2 := by unfold crs sc; grind
theorem dt_sc (K : Int) (a b c : P2) : dt (sc K a).1 (sc K a).2 (sc K b).1 (sc K b).2 (sc K c).1 (sc K c).2 = K * K * dt a.1 a.2 b.1 b.2 c.1 c.2 := by unfold dt sc; grind
theorem pos_sc {K : Int} (hK : 0 < K) (x : Int) : (0 < K * x ↔ 0 < x) ∧ (K * x < 0 ↔ x < 0) ∧ (K * x = 0 ↔ x = 0) := by
  rcases Int.lt_trichotomy x 0 with h | h | h
  · have := Int.mul_neg_of_pos_of_neg hK h; omega
  · subst h; simp
  · have := Int.mul_pos hK h; omega
theorem le_sc {K : Int} (hK : 0 < K) (x y : Int) : K * x ≤ K * y ↔ x ≤ y := ⟨fun h => Int.le_of_mul_le_mul_left h hK, fun h => Int.mul_le_mul_of_nonneg_left h (by omega)⟩
theorem hasP_sc {K : Int} (hK : 0 < K) (a b p : P2) : hasP (sc K a) (sc K b) (sc K p) = hasP a b p := by
  unfold hasP
  rw [Bool.eq_iff_iff, hasC_iff, hasC_iff, crs_sc, dt_sc]
  have h2 := Int.mul_pos hK hK
  have p1 := pos_sc h2 (crs a.1 a.2 b.1 b.2 p.1 p.2)
  have p2 := pos_sc h2 (dt p.1 p.2 a.1 a.2 b.1 b.2)
  omega
theorem splB_sc {K : Int} (hK : 0 < K) (a b c d : P2) : splB (sc K a).1 (sc K a).2 (sc K b).1 (sc K b).2 (sc K c).1 (sc K c).2 (sc K d).1 (sc K d).2 = splB a.1 a.2 b.1 b.2 c.1 c.2 d.1 d.2 := by
  rw [Bool.eq_iff_iff, spl_iff, spl_iff, crs_sc, crs_sc]
  have h2 := Int.mul_pos hK hK
  have p1 := pos_sc h2 (crs a.1 a.2 b.1 b.2 c.1 c.2)
  have p2 := pos_sc h2 (crs a.1 a.2 b.1 b.2 d.1 d.2)
  omega
theorem meetP_sc {K : Int} (hK : 0 < K) (a b c d : P2) : meetP (sc K a) (sc K b) (sc K c) (sc K d) = meetP a b c d := by
  unfold meetP
  rw [meet_alt0, meet_alt0, splB_sc hK, splB_sc hK]
  have h1 := hasP_sc hK a b c
  have h2 := hasP_sc hK a b d
  have h3 := hasP_sc hK c d a
  have h4 := hasP_sc hK c d b
  unfold hasP at h1 h2 h3 h4
  rw [h1, h2, h3, h4]
theorem passP_sc {K : Int} (hK : 0 < K) (a b p : P2) : passP (sc K a) (sc K b) (sc K p) = passP a b p := by
  have l1 := le_sc hK
  have e1 : ∀ a b : P2, (decide ((sc K a).2 ≤ (sc K p).2) && decide ((sc K p).2 < (sc K b).2) && decide (0 < crs (sc K a).1 (sc K a).2 (sc K b).1 (sc K b).2 (sc K p).1 (sc K p).2)) = (decide (a.2 ≤ p.2) && decide (p.2 < b.2) && decide (0 < crs a.1 a.2 b.1 b.2 p.1 p.2)) := by
    intro a b
    rw [crs_sc]
    have p1 := pos_sc (Int.mul_pos hK hK) (crs a.1 a.2 b.1 b.2 p.1 p.2)
    have i1 : ((sc K a).2 ≤ (sc K p).2) ↔ a.2 ≤ p.2 := l1 _ _
    have i2 : ((sc K p).2 < (sc K b).2) ↔ p.2 < b.2 := by have := l1 b.2 p.2; unfold sc; dsimp only; omega
    simp only [i1, i2, p1.1]
  have i3 : ((sc K a).2 > (sc K b).2) ↔ a.2 > b.2 := by have := l1 a.2 b.2; unfold sc; dsimp only; omega
  unfold passP
  simp only [i3]
  split
  · exact e1 b a
  · exact e1 a b
theorem sc_ne {K : Int} (hK : 0 < K) {a b : P2} (h : a ≠ b) : sc K a ≠ sc K b := by
  intro e
  apply h
  have e1 : K * a.1 = K * b.1 := congrArg Prod.fst e
  have e2 : K * a.2 = K * b.2 := congrArg Prod.snd e
  exact Prod.ext (Int.eq_of_mul_eq_mul_left (by omega) e1) (Int.eq_of_mul_eq_mul_left (by omega) e2)
theorem apL_sc {K : Int} (hK : 0 < K) {a b : List P2} (h : apL a b = true) : apL (a.map (sc K)) (b.map (sc K)) = true := by
  rw [apL_iff] at h ⊢
  simp only [List.length_map, map_nxt]
  intro i hi k hk
  rw [map_at hi, map_at hk, map_at (nxt_lt (by omega)), map_at (nxt_lt (by omega)), meetP_sc hK]; exact h i hi k hk
theorem edgy_sc {K : Int} (hK : 0 < K) {a : List P2} (h : Edgy a) : Edgy (a.map (sc K)) := by
  intro i hi
  rw [List.length_map] at hi
  rw [map_nxt, map_at hi, map_at (nxt_lt (by omega))]
  exact sc_ne hK (h i hi)
theorem onL_sc {K : Int} (hK : 0 < K) (l : List P2) (p : P2) : onL (l.map (sc K)) (sc K p) = onL l p := by
  rw [Bool.eq_iff_iff, onL_iff, onL_iff, List.length_map]
  constructor
  · rintro ⟨i, hi, h⟩
    rw [map_nxt, map_at hi, map_at (nxt_lt (by omega)), hasP_sc hK] at h
    exact ⟨i, hi, h⟩
  · rintro ⟨i, hi, h⟩
    refine ⟨i, hi, ?_⟩
    rw [map_nxt, map_at hi, map_at (nxt_lt (by omega)), hasP_sc hK]
    exact h
theorem inI_sc {K : Int} (hK : 0 < K) (l : List P2) (p : P2) : inI (l.map (sc K)) (sc K p) = inI l p := by
  have : cntP (l.map (sc K)) (sc K p) = cntP l p := by
    unfold cntP; rw [sumE_map]; exact sumE_congr fun i _ => by rw [passP_sc hK]
  rw [inI_eq, inI_eq, onL_sc hK, this]

/-! ### Where an edge passes a height -/
def lo (a b : P2) : P2 := if a.2 > b.2 then b else a
def hi (a b : P2) : P2 := if a.2 > b.2 then a else b
/-- The edge passes the height. -/
def stB (a b : P2) (y : Int) : Bool := decide ((lo a b).2 ≤ y) && decide (y < (hi a b).2)
/-- How high it is; where it passes, as many times. -/
def dE (a b : P2) : Int := (hi a b).2 - (lo a b).2
def xE (a b : P2) (y : Int) : Int := (lo a b).1 * dE a b + ((hi a b).1 - (lo a b).1) * (y - (lo a b).2)
theorem stB_iff (a b : P2) (y : Int) : stB a b y = true ↔ (lo a b).2 ≤ y ∧ y < (hi a b).2 := by unfold stB; simp
theorem pass_st (a b p : P2) : passP a b p = true ↔ stB a b p.2 = true ∧ dE a b * p.1 < xE a b p.2 := by
  have e : passP a b p = (decide ((lo a b).2 ≤ p.2) && decide (p.2 < (hi a b).2) && decide (0 < crs (lo a b).1 (lo a b).2 (hi a b).1 (hi a b).2 p.1 p.2)) := by
    unfold passP lo hi; split <;> rfl
  rw [e, stB_iff]
  simp only [Bool.and_eq_true, decide_eq_true_eq]
  have : crs (lo a b).1 (lo a b).2 (hi a b).1 (hi a b).2 p.1 p.2 = xE a b p.2 - dE a b * p.1 := by unfold crs xE dE; grind
  rw [this]
  omega
theorem dE_pos {a b : P2} {y : Int} (h : stB a b y = true) : 0 < dE a b := by rw [stB_iff] at h; unfold dE; omega
theorem lohi_has (a b p : P2) : hasP (lo a b) (hi a b) p = hasP a b p := by
  unfold lo hi; split
  · exact hasP_back _ _ _
  · rfl
theorem lo_sc {K : Int} (hK : 0 < K) (a b : P2) : lo (sc K a) (sc K b) = sc K (lo a b) ∧ hi (sc K a) (sc K b) = sc K (hi a b) := by
  have i3 : ((sc K a).2 > (sc K b).2) ↔ a.2 > b.2 := by have := le_sc hK a.2 b.2; unfold sc; dsimp only; omega
  unfold lo hi
  simp only [i3]
  constructor <;> split <;> rfl
theorem dE_sc {K : Int} (hK : 0 < K) (a b : P2) : dE (sc K a) (sc K b) = K * dE a b := by
  unfold dE; rw [(lo_sc hK a b).1, (lo_sc hK a b).2]; unfold sc; grind
theorem xE_sc {K : Int} (hK : 0 < K) (a b : P2) (y : Int) : xE (sc K a) (sc K b) (K * y) = K * (K * xE a b y) := by
  unfold xE; rw [dE_sc hK, (lo_sc hK a b).1, (lo_sc hK a b).2]; unfold sc; dsimp only; grind
theorem stB_sc {K : Int} (hK : 0 < K) (a b : P2) (y : Int) : stB (sc K a) (sc K b) (K * y) = stB a b y := by
  rw [Bool.eq_iff_iff, stB_iff, stB_iff, (lo_sc hK a b).1, (lo_sc hK a b).2]
  have h1 := le_sc hK (lo a b).2 y
  have h2 := le_sc hK (hi a b).2 y
  unfold sc; dsimp only; omega
/-- The point where an edge passes, scaled, is on the scaled edge. -/
theorem has_at {a b : P2} {y M : Int} (hM : 0 < M) (h : stB a b y = true) : hasP (sc (dE a b * M) a) (sc (dE a b * M) b) (M * xE a b y, dE a b * M * y) = true := by
  have hD := dE_pos h
  have hK := Int.mul_pos hD hM
  rw [← lohi_has, (lo_sc hK a b).1, (lo_sc hK a b).2]
  rw [stB_iff] at h
  unfold hasP
  refine has_of_between ?_ ?_ ?_ ?_
  · unfold xE sc dE crs; dsimp only; grind
  · exact (le_sc hK _ _).2 h.1
  · exact (le_sc hK _ _).2 (by omega)
  · have := le_sc hK (hi a b).2 (lo a b).2; unfold sc; dsimp only; unfold dE at *; omega
/-- The second edge passes right of where the first one does. -/
def rB (y : Int) (a b c d : P2) : Bool := stB c d y && decide (dE c d * xE a b y < dE a b * xE c d y)
theorem pass_at {a b c d : P2} {y : Int} (h : stB a b y = true) : passP (sc (dE a b) c) (sc (dE a b) d) (xE a b y, dE a b * y) = rB y a b c d := by
  have hD := dE_pos h
  rw [Bool.eq_iff_iff, pass_st]
  unfold rB
  rw [stB_sc hD, Bool.and_eq_true, decide_eq_true_eq, dE_sc hD, xE_sc hD]
  have e : dE a b * dE c d * xE a b y = dE a b * (dE c d * xE a b y) := by grind
  rw [e]
  have := le_sc hD (dE a b * xE c d y) (dE c d * xE a b y)
  constructor <;> rintro ⟨h1, h2⟩ <;> exact ⟨h1, by omega⟩
/-- Two edges that do not meet, and pass a height: one of them is right of the other one. -/
theorem r_one {a b c d : P2} {y : Int} (hab : a ≠ b) (hcd : c ≠ d) (hm : meetP a b c d = false) (h1 : stB a b y = true) (h2 : stB c d y = true) : b2i (rB y a b c d) + b2i (rB y c d a b) = 1 := by
  have d1 := dE_pos h1
  have d2 := dE_pos h2
  have hne : dE c d * xE a b y ≠ dE a b * xE c d y := by
    intro e
    have hK := Int.mul_pos d1 d2
    have k1 := has_at d2 h1
    have k2 := has_at d1 h2
    rw [e, Int.mul_comm (dE c d) (dE a b)] at *
    have := common_meet (sc_ne hK hab) (sc_ne hK hcd) k1 k2
    rw [meetP_sc hK, hm] at this
    cases this
  unfold rB
  rw [h1, h2, Bool.true_and, Bool.true_and]
  rcases Int.lt_or_gt_of_ne hne with h | h
  · rw [decide_eq_true h, decide_eq_false (by omega)]; rfl
  · rw [decide_eq_false (by omega), decide_eq_true (by omega)]; rfl
theorem r_pair {a b c d p : P2} (hab : a ≠ b) (hcd : c ≠ d) (hm : meetP a b c d = false) :
    b2i (passP a b p) * b2i (rB p.2 a b c d) + b2i (passP c d p) * b2i (rB p.2 c d a b) = b2i (passP a b p) * b2i (passP c d p) := by
  have imp : ∀ a b c d : P2, passP a b p = true → rB p.2 a b c d = true → passP c d p = true := by
    intro a b c d h1 h2
    rw [pass_st] at h1 ⊢
    unfold rB at h2
    rw [Bool.and_eq_true, decide_eq_true_eq] at h2
    refine ⟨h2.1, ?_⟩
    have d1 := dE_pos h1.1
    have d2 := dE_pos h2.1
    have t := Int.mul_lt_mul_of_pos_left h1.2 d2
    have e : dE c d * (dE a b * p.1) = dE a b * (dE c d * p.1) := by grind
    rw [e] at t
    exact Int.lt_of_mul_lt_mul_left (Int.lt_trans t h2.2) (by omega)
  cases h1 : passP a b p
  · cases h2 : passP c d p
    · simp [b2i]
    · cases h3 : rB p.2 c d a b
      · simp [b2i]
      · have := imp c d a b h2 h3; rw [h1] at this; cases this
  · cases h2 : passP c d p
    · cases h3 : rB p.2 a b c d
      · simp [b2i]
      · have := imp a b c d h1 h3; rw [h2] at this; cases this
    · have := r_one (y := p.2) hab hcd hm ((pass_st _ _ _).1 h1).1 ((pass_st _ _ _).1 h2).1
      have o : b2i true = 1 := rfl
      rw [o]; omega
/-! ### Sums over pairs -/
theorem sumF_swap (g : Nat → Nat → Int) (m n : Nat) : sumF (fun i => sumF (g i) n) m = sumF (fun j => sumF (fun i => g i j) m) n := by
  induction m with
  | zero =>
    have : ∀ n, sumF (fun _ => (0 : Int)) n = 0 := fun n => by induction n with
      | zero => rfl
      | succ n ih => show sumF _ n + 0 = 0; rw [ih]; rfl
    exact (this n).symm
  | succ m ih =>
    show sumF _ m + sumF (g m) n = sumF (fun j => sumF (fun i => g i j) m + g m j) n
    rw [sumF_add, ih]
theorem sumF_prod (x y : Nat → Int) (m n : Nat) : sumF (fun i => sumF (fun j => x i * y j) n) m = sumF x m * sumF y n := by
  have : (fun i => sumF (fun j => x i * y j) n) = fun i => sumF y n * x i := by funext i; rw [sumF_mul, Int.mul_comm]
  rw [this, sumF_mul, Int.mul_comm]
theorem sumF_pairs {x y : Nat → Int} {r s : Nat → Nat → Int} {m n : Nat} (h : ∀ i, i < m → ∀ j, j < n → x i * r i j + y j * s j i = x i * y j) :
    sumF (fun i => x i * sumF (r i) n) m + sumF (fun j => y j * sumF (s j) m) n = sumF x m * sumF y n := by
  have e1 : sumF (fun i => x i * sumF (r i) n) m = sumF (fun i => sumF (fun j => x i * r i j) n) m := sumF_congr fun i _ => (sumF_mul _ _ _).symm
  have e2 : sumF (fun j => y j * sumF (s j) m) n = sumF (fun i => sumF (fun j => y j * s j i) n) m := by
    rw [sumF_swap]; exact sumF_congr fun j _ => (sumF_mul _ _ _).symm
  rw [e1, e2, ← sumF_add, ← sumF_prod]
  refine sumF_congr fun i hi => ?_
  rw [← sumF_add]
  exact sumF_congr fun j hj => h i hi j hj
theorem sumF_mod {x s : Nat → Int} {β : Int} {m : Nat} (h : ∀ i, i < m → x i = 0 ∨ (x i = 1 ∧ s i % 2 = β % 2)) : sumF (fun i => x i * s i) m % 2 = (β * sumF x m) % 2 := by
  rw [← sumF_mul]
  have := sumF_even (f := fun i => x i * s i + - (β * x i)) (n := m) (fun i hi => by
    rcases h i hi with e | ⟨e, e2⟩
    · simp [e]
    · simp only [e, Int.one_mul, Int.mul_one]; omega)
  rw [sumF_add, sumF_neg] at this
  omega
/-- Is a corner of the second loop in the first one? As a number. -/
def innN (a b : List P2) : Int := if inI a (ptAt b 0) = 1 then 1 else 0
/-- TWO LOOPS THAT DO NOT MEET, seen from any point. -/
theorem two_loops {a b : List P2} (ha : Edgy a) (hb : Edgy b) (hm : apL a b = true) (p : P2) : (cntP a p * cntP b p) % 2 = (innN b a * cntP a p + innN a b * cntP b p) % 2 := by
  have hm' : apL b a = true := by rw [apL_comm]; exact hm
  have key : ∀ a b : List P2, Edgy a → Edgy b → apL b a = true → ∀ i, i < a.length →
      b2i (passP (ptAt a i) (ptAt a (nxt a i)) p) = 0 ∨ (b2i (passP (ptAt a i) (ptAt a (nxt a i)) p) = 1 ∧ sumF (fun j => b2i (rB p.2 (ptAt a i) (ptAt a (nxt a i)) (ptAt b j) (ptAt b (nxt b j)))) b.length % 2 = innN b a % 2) := by
    intro a b ha hb hm i hi
    cases hp : passP (ptAt a i) (ptAt a (nxt a i)) p
    · exact .inl rfl
    · right
      refine ⟨rfl, ?_⟩
      have hst := ((pass_st _ _ _).1 hp).1
      have hD := dE_pos hst
      have h1 := has_at (M := 1) (by omega) hst
      rw [Int.mul_one, Int.one_mul] at h1
      have hon : onL (a.map (sc (dE (ptAt a i) (ptAt a (nxt a i))))) (xE (ptAt a i) (ptAt a (nxt a i)) p.2, dE (ptAt a i) (ptAt a (nxt a i)) * p.2) = true := by
        rw [onL_iff]
        refine ⟨i, by rw [List.length_map]; exact hi, ?_⟩
        rw [map_nxt, map_at hi, map_at (nxt_lt (by omega))]; exact h1
      have hs := edge_side (edgy_sc hD hb) (edgy_sc hD ha) (apL_sc hD hm) hon
      rw [map_at (by omega), inI_sc hD] at hs
      have hc : cntP (b.map (sc (dE (ptAt a i) (ptAt a (nxt a i))))) (xE (ptAt a i) (ptAt a (nxt a i)) p.2, dE (ptAt a i) (ptAt a (nxt a i)) * p.2) = sumF (fun j => b2i (rB p.2 (ptAt a i) (ptAt a (nxt a i)) (ptAt b j) (ptAt b (nxt b j)))) b.length := by
        unfold cntP
        rw [sumE_map]
        exact sumF_congr fun j _ => by dsimp only; rw [pass_at hst]
      rw [← hc]
      have he := inI_eq (b.map (sc (dE (ptAt a i) (ptAt a (nxt a i))))) (xE (ptAt a i) (ptAt a (nxt a i)) p.2, dE (ptAt a i) (ptAt a (nxt a i)) * p.2)
      rw [hs.2, hs.1] at he
      simp only [Bool.false_eq_true, if_false] at he
      unfold innN
      rw [he]
      split <;> simp <;> omega
  have hpairs := sumF_pairs (m := a.length) (n := b.length) (x := fun i => b2i (passP (ptAt a i) (ptAt a (nxt a i)) p)) (y := fun j => b2i (passP (ptAt b j) (ptAt b (nxt b j)) p))
    (r := fun i j => b2i (rB p.2 (ptAt a i) (ptAt a (nxt a i)) (ptAt b j) (ptAt b (nxt b j)))) (s := fun j i => b2i (rB p.2 (ptAt b j) (ptAt b (nxt b j)) (ptAt a i) (ptAt a (nxt a i))))
    (fun i hi j hj => r_pair (ha i hi) (hb j hj) ((apL_iff a b).1 hm i hi j hj))
  have m1 := sumF_mod (key a b ha hb hm')
  have m2 := sumF_mod (key b a hb ha hm)
  have c1 : cntP a p = sumF (fun i => b2i (passP (ptAt a i) (ptAt a (nxt a i)) p)) a.length := rfl
  have c2 : cntP b p = sumF (fun j => b2i (passP (ptAt b j) (ptAt b (nxt b j)) p)) b.length := rfl
  rw [c1, c2, ← hpairs]
  omega
theorem inI_odd {l : List P2} {p : P2} (h : inI l p = 1) : cntP l p % 2 = 1 := by
  rw [inI_eq] at h
  split at h
  · omega
  · split at h <;> omega
/-- What is in a loop that is in another one is in that one. -/
theorem in_in_in {o h : List P2} {p : P2} (ho : okV o = true) (hh : okV h = true) (ha : arB o h = true) (hp : inI h p = 1) : inI o p = 1 := by
  rw [arB_iff] at ha
  have z1 := okV_pos ho
  have z2 := okV_pos hh
  have nb := not_both (by omega) (by omega) ha.1 ha.2 0 (by omega)
  have t := two_loops (okV_edgy ho) (okV_edgy hh) ha.1 p
  have n1 : innN o h = 1 := by unfold innN; rw [if_pos ha.2]
  have n2 : innN h o = 0 := by unfold innN; rw [nb]; rfl
  rw [n1, n2, Int.zero_mul, Int.one_mul, Int.zero_add, Int.mul_emod, inI_odd hp] at t
  have hoff : onL o p = false := by
    rw [Bool.eq_false_iff]; intro hon
    have := (on_side hh ho (by rw [apL_comm]; exact ha.1) hon).1
    rw [nb] at this; omega
  rw [inI_eq, hoff]
  have : cntP o p % 2 = 1 := by
    rcases (show cntP o p % 2 = 0 ∨ cntP o p % 2 = 1 by omega) with e | e
    · rw [e] at t; simp at t
    · exact e
  simp [this]
/-- What is in a loop is beyond one that is beyond it. -/
theorem in_beyond {a b : List P2} {p : P2} (ha : okV a = true) (hb : okV b = true) (h : beB a b = true) (hp : inI a p = 1) : inI b p = -1 := by
  rw [beB_iff] at h
  have t := two_loops (okV_edgy ha) (okV_edgy hb) h.1 p
  have n1 : innN a b = 0 := by unfold innN; rw [h.2.1]; rfl
  have n2 : innN b a = 0 := by unfold innN; rw [h.2.2]; rfl
  rw [n1, n2, Int.zero_mul, Int.zero_mul, Int.zero_add, Int.mul_emod, inI_odd hp] at t
  have hoff : onL b p = false := by
    rw [Bool.eq_false_iff]; intro hon
    have := (on_side ha hb h.1 hon).1
    rw [h.2.1] at this; omega
  refine inI_none hoff ?_
  rcases (show cntP b p % 2 = 0 ∨ cntP b p % 2 = 1 by omega) with e | e
  · exact e
  · rw [e] at t; simp at t
/-- P44: a hole that is filled. -/
theorem fill {o h : List P2} {hs : List (List P2)} {p : P2} (hv : plV o (hs ++ [h]) = true) :
    (0 ≤ inI h p → plI o (hs ++ [h]) p = - inI h p ∧ plI o hs p = 1) ∧ (inI h p = -1 → plI o (hs ++ [h]) p = plI o hs p) := by
  have hv' : plV o hs = true := by have := plV_less hv; rwa [List.dropLast_concat] at this
  have L := (plV_iff _ _).1 hv
  have ok := L.ok h (by simp)
  have ar := L.ar h (by simp)
  have e3 := inI_3 h p
  rw [plI_snoc]
  have le1 : plI o hs p ≤ 1 := by
    have : ∀ (hs : List (List P2)) (s : Int), s ≤ 1 → hs.foldl (fun s h => min s (-(inI h p))) s ≤ 1 := by
      intro hs
      induction hs with
      | nil => intro s h; exact h
      | cons x xs ih => intro s h; exact ih _ (by dsimp only; omega)
    exact this hs _ (by have := inI_3 o p; omega)
  constructor
  · intro h0
    have : plI o hs p = 1 := by
      refine (plI_one hv' p).2 ⟨?_, ?_⟩
      · rcases e3 with e | e | e
        · rw [(on_side L.out ok ((arB_iff _ _).1 ar).1 ((inI_zero _ _).1 e)).1]; exact ((arB_iff _ _).1 ar).2
        · exact in_in_in L.out ok ar e
        · omega
      · intro k hk
        obtain ⟨i, hi, rfl⟩ := List.getElem_of_mem hk
        have hbe := L.be i hs.length hi (by simp)
        rw [List.getElem?_append_left hi, List.getElem?_concat_length, List.getElem?_eq_getElem hi, Option.getD_some, Option.getD_some] at hbe
        have okk := L.ok hs[i] (by simp)
        have hbe' : beB h hs[i] = true := by rw [beB_comm]; exact hbe
        rcases e3 with e | e | e
        · have hb := (beB_iff _ _).1 hbe
          rw [(on_side okk ok hb.1 ((inI_zero _ _).1 e)).1]; exact hb.2.1
        · exact in_beyond ok okk hbe' e
        · omega
    rw [this]
    exact ⟨by omega, rfl⟩
  · intro e
    rw [e]; omega
end Go.Proofs.Ythedlopfjlnogaa
namespace Go.Proofs.Ythedlopfjlnogaa
open Go.RowKit Go.Shelf Go.Sort

set_option maxRecDepth 100000 in
set_option maxHeartbeats 1000000 in
/-- LoopIn. -/
theorem in_any' (a : Option Addr) (len cap : Nat) (pts : List P2) (p : P2) (hlen : len ≤ 1048576) (w : World) (hP : Pts w.heap.size w a len pts) :
    Calls Try.prog 15 #[.slice a len cap, .agg #[.int .i64 p.1, .int .i64 p.2]] w fun e W' => e = .returned (.int .i64 (inV pts p)) ∧ Below w.heap.size w W' := by
  obtain ⟨W, hW, BW, T⟩ : ∃ W, W = w.alloc (.cells #[.int .i64 p.1, .int .i64 p.2] 33) ∧ Below w.heap.size w W ∧ W.heap[w.heap.size]? = some (.cells #[.int .i64 p.1, .int .i64 p.2] 33) := ⟨_, rfl, (by repeat (first | exact bw_refl _ | assumption | apply bw_drewN | apply bw_drew | apply bw_alloc | refine bw_set ?_ (by simp) _)), heap_new _ _⟩
  have hP1 := (hP.below BW).grow BW.size
  have hcall := ok_any a len cap pts hlen W hP1
  cases hok : okV pts
  · rw [hok] at hcall
    have e1 : Hid (inV pts p = -1) := by change _ = _; unfold inV; rw [hok]; rfl
    go_enter Try.func15, Try.ntmps15
    go_upto_region 1 with fail
    rw [← hW]
    clear hW
    go_wp2_with (go_at_call 47; refine hcall.mono ?_; rintro e v ⟨rfl, J0⟩)
    go_ret
    exact ⟨ret_int e1.out.symm, bw_trans BW J0⟩
  rw [hok] at hcall
  cases hp : ptB p.1 p.2
  · have e1 : Hid (inV pts p = -1) := by change _ = _; unfold inV; rw [hok, hp]; rfl
    go_enter Try.func15, Try.ntmps15
    go_upto_region 1 with fail
    rw [← hW]
    clear hW
    go_wp2_with (go_at_call 47; refine hcall.mono ?_; rintro e v ⟨rfl, J0⟩; obtain ⟨t0, t1⟩ := blk_2 (keep J0 T))
    refine (pt_raw p _).mono ?_
    rw [hp]
    rintro e v2 ⟨rfl, J1⟩
    go_wp2_with fail
    go_ret
    exact ⟨ret_int e1.out.symm, bw_trans (bw_trans BW J0) J1⟩
  · have e1 : Hid (inV pts p = inI pts p) := by change _ = _; unfold inV; rw [hok, hp]; rfl
    go_enter Try.func15, Try.ntmps15
    go_upto_region 1 with fail
    rw [← hW]
    clear hW
    go_wp2_with (go_at_call 47; refine hcall.mono ?_; rintro e v ⟨rfl, J0⟩; obtain ⟨t0, t1⟩ := blk_2 (keep J0 T))
    refine (pt_raw p _).mono ?_
    rw [hp]
    rintro e v2 ⟨rfl, J1⟩
    clear t0 t1
    have J2 := bw_trans J0 J1
    obtain ⟨t0, t1⟩ := blk_2 (keep J2 T)
    go_wp2_with fail
    refine (where_any a len cap pts p hlen hok hp v2 ((hP1.below J2).grow J2.size)).mono ?_
    rintro e v3 ⟨rfl, J3⟩
    go_wp2_with fail
    go_ret
    exact ⟨ret_int e1.out.symm, bw_trans (bw_trans BW J2) J3⟩
end Go.Proofs.Ythedlopfjlnogaa
namespace Go.Proofs.Ythedlopfjlnogaa
open Go.RowKit Go.Sort

theorem plInV_ok {o : List P2} {hs : List (List P2)} {p : P2} (h : plV o hs = true) (hp : ptB p.1 p.2 = true) : plInV o hs p = plI o hs p := by unfold plInV; rw [h, hp]; rfl
theorem plInV_no {o : List P2} {hs : List (List P2)} {p : P2} (h : plV o hs = false) : plInV o hs p = -1 := by unfold plInV; rw [h]; rfl
theorem inV_ok {l : List P2} {p : P2} (h : okV l = true) (hp : ptB p.1 p.2 = true) : inV l p = inI l p := by unfold inV; rw [h, hp]; rfl
theorem Plt.less {W : World} {a ah : Option Addr} {la m : Nat} {o x : List P2} {hs : List (List P2)} (h : Plt W a la ah (m + 1) o (hs ++ [x])) : Plt W a la ah m o hs := by
  obtain ⟨h1, h2, h3, A, L, C, h4, h5⟩ := h
  have hm : hs.length = m := by simpa using h3
  refine ⟨h1, h2, hm, A, L, C, ?_, fun j hj => ?_⟩
  · rcases h4 with h | ⟨b, off, e, hb, hc⟩
    · omega
    · exact .inr ⟨b, off, e, hb, fun j hj => hc j (by omega)⟩
  · have := h5 j (by omega)
    rwa [List.getElem?_append_left (by omega)] at this
set_option maxRecDepth 100000 in
set_option maxHeartbeats 4000000 in
theorem plateFill_walk (w : World) (a0 : Option Addr) (len0 cap0 : Nat) (z0 : List Int) (r0 : IsRow .u8 w a0 len0 cap0 z0) :
    Calls Try.prog 5 #[.slice a0 len0 cap0] w fun e w' => e = .returned (.bool true) ∧ Below w.heap.size w w' := by
  by_cases hl : 1048576 < len0
  · go_enter Try.func5, Try.ntmps5
    go_wp2
    go_ret
    exact ⟨rfl, bw_refl _⟩
  have hl0 : len0 ≤ 1048576 := by omega
  clear hl
  have heq : ∀ b : Int, (b == b) = true := by simp
  go_enter Try.func5, Try.ntmps5
  go_wp2_with fail
  refine (drawPlateIn_any w _ r0 (bw_refl _)).mono ?_
  rintro e w1 ⟨⟨g, n, c, l⟩, hv, hs, x, y, he, hPB, hD, ⟨hs3, hst⟩, J1⟩
  obtain rfl : e = .returned (.tuple #[.agg #[.slice (some ⟨g, 0, none⟩) n c, hv], .agg #[.int .i64 x, .int .i64 y]]) := he
  obtain ⟨gh, ch, rfl⟩ : ∃ gh ch, hv = .slice (some ⟨gh, 0, none⟩) hs.length ch := own_seat hD.2.2.1 hst
  obtain ⟨W, hW, BW, T, T2⟩ := boxes2 w1 (.cells #[.slice (some ⟨g, 0, none⟩) n c, .slice (some ⟨gh, 0, none⟩) hs.length ch] 26) (.cells #[.int .i64 x, .int .i64 y] 33)
  replace hD := hD.below BW
  have K := bw_trans J1 BW
  go_upto_region 5 with fail
  rw [← hW]
  clear hW BW J1
  have hcap : hs.length ≤ ch := by
    rcases hD.2.2.1.2 with ⟨e, _⟩ | ⟨g', c', cur, e, _, _, h1, _⟩
    · cases e
    · cases e; exact h1
  have hPl := hD.plt
  obtain ⟨t0, t1⟩ := blk_2 T
  obtain ⟨u0, u1⟩ := blk_2 T2
  go_wp2_with fail
  refine (plateIn_any _ _ n c hs.length ch l _ (x, y) _ hPl).mono ?_
  rintro e w2 ⟨rfl, J⟩
  replace K := bw_trans K J
  replace T := keep J T
  replace T2 := keep J T2
  replace hD := hD.below J
  replace hPl := hPl.below J
  clear J t0 t1 u0 u1
  obtain ⟨t0, t1⟩ := blk_2 T
  obtain ⟨u0, u1⟩ := blk_2 T2
  go_wp2_with fail
  refine (sPlateIn_any _ _ n c hs.length ch l _ (x, y) _ hPl).mono ?_
  rintro e w3 ⟨rfl, J⟩
  replace K := bw_trans K J
  replace T := keep J T
  replace T2 := keep J T2
  replace hD := hD.below J
  replace hPl := hPl.below J
  clear J t0 t1 u0 u1
  obtain ⟨t0, t1⟩ := blk_2 T
  obtain ⟨u0, u1⟩ := blk_2 T2
  cases hv : plV l (hs.map LoopT.l)
  case false =>
    go_wp2_with fail
    refine (sPlateOk_any _ _ n c hs.length ch l _ _ hPl).mono ?_
    rw [hv]
    rintro e w4 ⟨rfl, J⟩
    replace K := bw_trans K J
    replace hPl := hPl.below J
    obtain ⟨t0, t1⟩ := blk_2 (keep J T)
    obtain ⟨u0, u1⟩ := blk_2 (keep J T2)
    go_wp2_with fail
    refine (sPlateIn_any _ _ n c hs.length ch l _ (x, y) _ hPl).mono ?_
    rintro e w5 ⟨rfl, J⟩
    go_wp2_with fail
    go_ret
    exact ⟨rfl, bw_trans K J⟩
  go_wp2_with fail
  refine (sPlateOk_any _ _ n c hs.length ch l _ _ hPl).mono ?_
  rw [hv]
  rintro e w4 ⟨rfl, J⟩
  replace K := bw_trans K J
  replace T := keep J T
  replace T2 := keep J T2
  replace hD := hD.below J
  replace hPl := hPl.below J
  clear J t0 t1 u0 u1
  obtain ⟨t0, t1⟩ := blk_2 T
  obtain ⟨u0, u1⟩ := blk_2 T2
  cases hp : ptB x y
  case false =>
    go_wp2_with fail
    refine (sPt_any x y _).mono ?_
    rw [hp]
    rintro e w5 ⟨rfl, J⟩
    replace K := bw_trans K J
    replace hPl := hPl.below J
    obtain ⟨t0, t1⟩ := blk_2 (keep J T)
    obtain ⟨u0, u1⟩ := blk_2 (keep J T2)
    go_wp2_with fail
    refine (sPlateIn_any _ _ n c hs.length ch l _ (x, y) _ hPl).mono ?_
    rintro e w6 ⟨rfl, J⟩
    go_wp2_with fail
    go_ret
    exact ⟨rfl, bw_trans K J⟩
  go_wp2_with fail
  refine (sPt_any x y _).mono ?_
  rw [hp]
  rintro e w5 ⟨rfl, J⟩
  replace K := bw_trans K J
  replace T := keep J T
  replace T2 := keep J T2
  replace hD := hD.below J
  replace hPl := hPl.below J
  clear J t0 t1 u0 u1
  obtain ⟨t0, t1⟩ := blk_2 T
  obtain ⟨u0, u1⟩ := blk_2 T2
  rcases List.eq_nil_or_concat hs with rfl | ⟨hs', t, hhs⟩
  · go_wp2_with fail
    refine (sPlateIn_any _ _ n c 0 ch l _ (x, y) _ hPl).mono ?_
    rintro e w6 ⟨rfl, J⟩
    go_wp2_with fail
    go_ret
    exact ⟨rfl, bw_trans K J⟩
  rw [List.concat_eq_append] at hhs
  obtain ⟨gt, nt, ct, lt⟩ := t
  obtain ⟨m, hm⟩ : ∃ m, hs'.length = m := ⟨_, rfl⟩
  have hml : hs.length = m + 1 := by rw [hhs]; simp [hm]
  have htk := hD.2.2.2 ⟨gt, nt, ct, lt⟩ (by rw [hhs]; simp)
  have hcell := own_news hD.2.2.1 (j := m) (u := .slice (some ⟨gt, 0, none⟩) nt ct) (by rw [hhs]; simp [← hm, LoopT.v])
  rw [show ((⟨gh, 0, none⟩ : Addr).add m) = ⟨gh, m, none⟩ by unfold Addr.add; split <;> simp_all] at hcell
  have hmap : hs.map LoopT.l = hs'.map LoopT.l ++ [lt] := by rw [hhs]; simp
  have hvin : plInV l (hs.map LoopT.l) (x, y) = plI l (hs'.map LoopT.l ++ [lt]) (x, y) := by rw [plInV_ok hv hp, hmap]
  rw [hmap, hml] at hPl
  have hPq := hPl.less
  rw [hmap] at hv
  have hF := fill (p := (x, y)) hv
  have hv' : plV l (hs'.map LoopT.l) = true := by have := plV_less hv; rwa [List.dropLast_concat] at this
  have hok : okV lt = true := ((plV_iff _ _).1 hv).ok lt (by simp)
  have hvq : plInV l (hs'.map LoopT.l) (x, y) = plI l (hs'.map LoopT.l) (x, y) := plInV_ok hv' hp
  have hvl : inV lt (x, y) = inI lt (x, y) := inV_ok hok hp
  obtain ⟨k1, k2, k3, k4, k5, k6, k7⟩ := htk
  have hPt := blk_pts k7 k3
  have k2' : nt ≤ 1048576 := by have : nt ≤ 8 := k2; omega
  have e3 := inI_3 lt (x, y)
  have hm3 : (m : Int) ≤ 3 := by omega
  rw [hml] at T t1 hcap
  rw [hml, hvin]
  clear hvin hhs hD hst hs3 k1 k2 k3 k4 k5 k6 k7 hPB hPl hv hv' hok hmap hml
  generalize plI l (hs'.map LoopT.l ++ [lt]) (x, y) = uin at *
  generalize inI lt (x, y) = ul at *
  generalize plI l (hs'.map LoopT.l) (x, y) = uq at *
  have i0 : (0 : Int) ≤ (m : Int) := Int.natCast_nonneg _
  have i1 : (m : Int) < (m : Int) + 1 := by omega
  have i2 : (m : Int) ≤ (ch : Int) := by omega
  have i3 : ((m : Int) + 1 == 0) = false := by simp; omega
  have i4 : (ch = 0) = False := by simp; omega
  have zp5 := blk_lt T
  have nw0 := World.new_ne w5 _ t0
  have nw1 := World.new_ne w5 _ t1
  go_wp2_with fail
  go_region_held3 (fun w' => w'.cell? ⟨w1.heap.size, 0, none⟩ = some (.slice (some ⟨g, 0, none⟩) n c) ∧ w'.cell? ⟨w1.heap.size, 1, none⟩ = some (.slice (some ⟨gh, 0, none⟩) (m + 1) ch)) (go_keep) (fail)
  have BQ : Below w5.heap.size w5 (w5.alloc (.cells #[.slice (some ⟨g, 0, none⟩) n c, .slice (some ⟨gh, 0, none⟩) m ch] 26)).drew := (by repeat (first | exact bw_refl _ | assumption | apply bw_drewN | apply bw_drew | apply bw_alloc | refine bw_set ?_ (by simp) _))
  have Q : (w5.alloc (.cells #[.slice (some ⟨g, 0, none⟩) n c, .slice (some ⟨gh, 0, none⟩) m ch] 26)).drew.heap[w5.heap.size]? = some (.cells #[.slice (some ⟨g, 0, none⟩) n c, .slice (some ⟨gh, 0, none⟩) m ch] 26 (0, 0)) := heap_new w5 _
  replace K := bw_trans K BQ
  replace T2 := keep BQ T2
  replace hPq := hPq.below BQ
  replace hPt := (hPt.below BQ).grow BQ.size
  clear u0 u1 t0 t1 nw0 nw1
  generalize (w5.alloc (.cells #[.slice (some ⟨g, 0, none⟩) n c, .slice (some ⟨gh, 0, none⟩) m ch] 26)).drew = v5 at *
  obtain ⟨u0, u1⟩ := blk_2 T2
  go_wp2_with fail
  refine (in_any' (some ⟨gt, 0, none⟩) nt ct lt (x, y) k2' _ hPt).mono ?_
  rw [hvl]
  rintro e w6 ⟨rfl, J⟩
  replace K := bw_trans K J
  replace T2 := keep J T2
  replace hPq := hPq.below J
  replace hPt := (hPt.below J).grow J.size
  replace Q := keep J Q
  clear u0 u1 BQ J
  obtain ⟨u0, u1⟩ := blk_2 T2
  obtain ⟨q0, q1⟩ := blk_2 Q
  by_cases hge : 0 ≤ ul
  · obtain ⟨f1, f2⟩ := hF.1 hge
    have nl : IntKind.i64.wrap (-ul) = -ul := wrap_small (by omega) (by omega)
    have hb : (uin == -ul) = true := by simpa using f1
    have hb2 : (uq == 1) = true := by simpa using f2
    go_wp2_with fail
    refine (in_any' (some ⟨gt, 0, none⟩) nt ct lt (x, y) k2' _ hPt).mono ?_
    rw [hvl]
    rintro e w7 ⟨rfl, J⟩
    replace K := bw_trans K J
    replace T2 := keep J T2
    replace hPq := hPq.below J
    replace hPt := (hPt.below J).grow J.size
    replace Q := keep J Q
    clear u0 u1 q0 q1 J
    obtain ⟨u0, u1⟩ := blk_2 T2
    obtain ⟨q0, q1⟩ := blk_2 Q
    go_wp2_with fail
    refine (plateIn_any _ _ n c m ch l _ (x, y) _ hPq).mono ?_
    rw [hvq]
    rintro e w8 ⟨rfl, J⟩
    go_wp2_with fail
    go_ret
    exact ⟨by first | rfl | simp [f2] | simp, bw_trans K J⟩
  · have f1 := hF.2 (by omega)
    have hb : (uq == uin) = true := by simp [f1]
    go_wp2_with fail
    refine (plateIn_any _ _ n c m ch l _ (x, y) _ hPq).mono ?_
    rw [hvq]
    rintro e w7 ⟨rfl, J⟩
    go_wp2_with fail
    go_ret
    exact ⟨by first | rfl | simp [f1] | simp, bw_trans K J⟩
end Go.Proofs.Ythedlopfjlnogaa
namespace Go.Proofs.Ythedlopfjlnogaa
open Go.ChangeShapes Go.WideShapes Go.ChangeAt Go.RowKit

theorem own : ownKnob Try.prog.godebug = none := by kernel_rfl
theorem laidOut : laidOutB Try.prog = true := by kernel_rfl
end Go.Proofs.Ythedlopfjlnogaa
namespace Go.Proofs.Ythedlopfjlnogaa
open Go.ChangeShapes Go.WideShapes Go.ChangeAt Go.RowKit Go.Joins
open Go.ChangeMaps (open_string shut_string)

set_option maxRecDepth 100000 in
theorem fnPlateFill_lifted (os : Os) (started : os.Started) (H : Type) (enc : TypeId × Value → H) :
    ReturnsInHanded {} Try.checked os 5 .any (Rows.fnPlateFillSpec.pre6 enc Try.prog Try.f5 Rows.fnPlateFillRow.domain false) (Rows.fnPlateFillSpec.post enc Try.prog Try.f5 false true false false) := by
  refine returnsInHanded_of_change (C := Try.checked) own started (by kernel_rfl) Try.func5
    (ChangeSpec.witness6 (enc := enc) (C := Try.checked) false ⟨#[], #[.slice none 0 0], []⟩ 8 (by kernel_rfl) (by kernel_rfl) (by kernel_rfl) (by kernel_rfl)) ?_
  intro W base args ds gs before hval0 hW _ _
  have hval : ∀ (j : Nat) t v, Try.f5.params[j]? = some t → args[j]? = some v → Value.okWide Try.prog W .any base t v := hval0
  have hW' := hW
  obtain ⟨p, q, hA0, hV, rfl, hfz, hnd⟩ := hW
  have hA : DataW.TrodAll enc Try.prog W 0 (fun _ => true) true Try.f5.params.toList args.toList ds p := hA0
  rw [Try.params5] at hA hval
  obtain ⟨v0, vs0, d0, ds0, p0, q0, hargs, rfl, rfl, h0, r0⟩ := trodAll_cons hA
  obtain ⟨rfl, rfl, rfl⟩ := trodAll_nil r0
  obtain rfl : args = #[v0] := by cases args; simp_all
  obtain ⟨rfl, rfl⟩ := trodVars_none hV
  have k0 := h0
  have lt0 : ∀ x ∈ p0, x.block < W.heap.size := by obtain ⟨m, hm⟩ := k0; exact DataW.trod_lt m _ _ _ hm
  obtain ⟨a0, len0, cap0, rfl⟩ := okWide_slice Try.underlying22 (hval 0 22 v0 rfl rfl)
  obtain ⟨z0, w0⟩ : ∃ zs, IsRow .u8 W a0 len0 cap0 zs := by
    obtain ⟨fuel, hf⟩ := h0
    rcases open_ints Try.underlying22 Try.underlying5 (by kernel_rfl) hf with ⟨hcs, _⟩ | ⟨x, l, c, zs, hcs, _, hl, hm, hz, _, hcell, hwz⟩
    · simp [Value.cells] at hcs
      obtain ⟨rfl, rfl, rfl⟩ := hcs
      exact ⟨[], .inl ⟨rfl, rfl, rfl, rfl⟩⟩
    · simp [Value.cells] at hcs
      obtain ⟨rfl, rfl, rfl⟩ := hcs
      exact ⟨zs, .inr ⟨_, rfl, hl, hm, by simpa using hz, hcell, hwz⟩⟩
  clear hA0 hval0
  refine (plateFill_walk W a0 len0 cap0 z0 w0).mono fun e W' ⟨he, bel⟩ => ?_
  subst he
  exact ⟨_, rfl, _, _, _, [], _, [], hW', trodAll_mk1 (shut_bool Try.underlying4 _), (trodAll_cons_mk (Below.trod laidOut (by kernel_rfl) (of_decide_eq_true (by kernel_rfl)) k0 bel lt0) trodAll_mk0), rfl, bel.frame _, fun h => by cases h⟩

theorem fnPlateFill_said : Rows.FnPlateFillSaid :=
  OpenClaim.holds_of_wide 5 Try.f5 rfl rfl rfl rfl rfl rfl rfl ⟨rfl, rfl, rfl, rfl, rfl⟩ rfl rfl rfl rfl rfl (by kernel_rfl) Try.func5 (by kernel_rfl)
    (of_decide_eq_true (by kernel_rfl)) (by unfold Func.isWrapper; first | (rw [if_pos (by decide +kernel)]; kernel_rfl) | (rw [if_neg (by decide +kernel)]; exact ⟨rfl, rfl⟩))
    (fun os started H enc _ => fnPlateFill_lifted os started H enc)

end Go.Proofs.Ythedlopfjlnogaa
