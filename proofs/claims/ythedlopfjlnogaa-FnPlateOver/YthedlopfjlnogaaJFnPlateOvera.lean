/-
  OUR OWN TEXT. The law FnPlateOver, for every input: the call returns true, and each argument reads as it did. Texts of ours, joined, so that the claim keeps to its number of files. Conditions: none but the row's own.
-/
import Derived.Test.YthedlopfjlnogaaDrawLoop
import Derived.Test.YthedlopfjlnogaaDrawPlate2
import Derived.Test.YthedlopfjlnogaaBoxes
import Derived.Test.YthedlopfjlnogaaGeo
import Derived.Test.YthedlopfjlnogaaLoopT
import Derived.Test.YthedlopfjlnogaaBoard
import Derived.Test.YthedlopfjlnogaaSPlateOk
import Derived.Test.YthedlopfjlnogaaPlateI
import Derived.Test.YthedlopfjlnogaaWhere
import Derived.Test.YthedlopfjlnogaaRows
import Derived.ProofKit
import Derived.OpenShut
import Derived.ShutString
import Derived.ChangeOld
import Derived.Below
import Derived.Lib.SmallJoins
namespace Go.Proofs.Ythedlopfjlnogaa
open Go.RowKit

theorem boxes1' (w : World) (o : Obj) : ∃ W, W = w.alloc o ∧ Below w.heap.size w W ∧ W.heap[w.heap.size]? = some o := ⟨_, rfl, (by repeat (first | exact bw_refl _ | assumption | apply bw_drewN | apply bw_drew | apply bw_alloc | refine bw_set ?_ (by simp) _)), heap_new _ _⟩
/-- A loop that was drawn: points of our own memory. -/
def Loopy (base : Nat) (w' : World) (v : Value) (l : List P2) (n : Nat) : Prop :=
  ∃ (g c : Nat), v = .slice (some ⟨g, 0, none⟩) n c ∧ 3 ≤ n ∧ n ≤ 7 ∧ l.length = n ∧ n ≤ c ∧ c ≤ maxLen ∧ base ≤ g ∧ PtBlk w' g c l n
theorem Loopy.below {base : Nat} {w w' : World} {v : Value} {l : List P2} {n : Nat} (h : Loopy base w v l n) (J : Below w.heap.size w w') : Loopy base w' v l n := by
  obtain ⟨g, c, e, h1, h2, h3, h4, h5, h6, h7⟩ := h
  exact ⟨g, c, e, h1, h2, h3, h4, h5, h6, h7.below J⟩
theorem PtBlk.pts' {W : World} {g c n : Nat} {l : List P2} (h : PtBlk W g c l n) (hl : l.length = n) : Pts W.heap.size W (some ⟨g, 0, none⟩) n l := by
  have hg := h.lt
  obtain ⟨cur, h, hs, hc⟩ := h
  refine ⟨hl, .inr ⟨g, 0, rfl, hg, fun j hj => ?_⟩⟩
  rw [Nat.zero_add, row_cell h, row_cell h]; exact hc j hj
end Go.Proofs.Ythedlopfjlnogaa
namespace Go.Proofs.Ythedlopfjlnogaa
open Go.RowKit

theorem PlD.set {base b i : Nat} {W : World} {o : LoopT} {hv : Value} {hs : List LoopT} (h : PlD base W o hv hs) (hb : b < base) (v : Value) : PlD base (W.setCell ⟨b, i, none⟩ v) o hv hs :=
  h.only ((Only.refl b W).set (p := ⟨b, i, none⟩) (.inl rfl) v) hb
set_option maxRecDepth 100000 in
set_option maxHeartbeats 2000000 in
theorem drawPlateIn_any {a : Option Addr} {len0 cap : Nat} {zs : List Int} (w0 w : World) (h : IsRow .u8 w0 a len0 cap zs) (hb : Below w0.heap.size w0 w) :
    Calls Try.prog 16 #[.slice a len0 cap] w fun e w' => ∃ (o : LoopT) (hv : Value) (hs : List LoopT) (x y : Int), e = .returned (.tuple #[.agg #[o.v, hv], .agg #[.int .i64 x, .int .i64 y]]) ∧ PB x y ∧ PlD w.heap.size w' o hv hs ∧ (hs.length ≤ 3 ∧ Seat hv) ∧ Below w.heap.size w w' := by
  obtain ⟨W, hW, BW, T, T2⟩ := boxes2 w (.cells #[.slice none 0 0, .slice none 0 0] 26) (.cells #[.int .i64 0, .int .i64 0] 33)
  go_enter Try.func16, Try.ntmps16
  go_wp2_with fail
  rw [← hW]
  clear hW
  refine (open_rd w0 _ h (bw_trans hb BW)).mono ?_
  rintro e w1 ⟨len, rfl, R, hb1⟩
  have zT := blk_lt T
  have zT2 := blk_lt T2
  replace T := keep hb1 T
  replace T2 := keep hb1 T2
  have K := bw_trans BW hb1
  have z1 := hb1.size
  have zr := R.lt
  clear hb1 BW
  go_wp2_with fail
  refine (plate_any 0 a len cap _ _ (by omega) R).mono ?_
  clear R
  rintro e w2 ⟨⟨g, n, c, l⟩, hv, hs, k2, he, hD, ⟨hs3, hst⟩, hk2, R, P⟩
  obtain rfl : e = .returned (.agg #[.slice (some ⟨g, 0, none⟩) n c, hv]) := he
  replace T := keepO P T (by omega)
  replace T2 := keepO P T2 (by omega)
  have KK := K.trans (P.below' (B := w.heap.size) (by omega) (by omega))
  go_wp2_with fail
  refine (l71Pt_any k2 a len cap _ _ (by omega) R).mono ?_
  clear R
  rintro e w3 ⟨x, y, k3, rfl, hPB, hk3, R, O⟩
  replace T := keepO O T (by omega)
  replace T2 := keepO O T2 (by omega)
  replace hD := hD.only O (by omega)
  replace KK := KK.trans (O.below' (B := w.heap.size) (by omega) (by have := KK.size; omega))
  obtain ⟨gh, ch, rfl⟩ : ∃ gh ch, hv = .slice (some ⟨gh, 0, none⟩) hs.length ch := own_seat hD.2.2.1 hst
  obtain ⟨a0, a1, af0, af1⟩ := blk2 T
  obtain ⟨b0, b1, bf0, bf1⟩ := blk2 T2
  go_wp2_with fail
  have T' := set_oth (b := w.heap.size + 1) (i := 1) (v := .int .i64 y) (set_oth (b := w.heap.size + 1) (i := 0) (v := .int .i64 x) (setB2 (u0 := .slice (some ⟨g, 0, none⟩) n c) (u1 := .slice (some ⟨gh, 0, none⟩) hs.length ch) T) (by omega)) (by omega)
  have T2' := setB2 (u0 := .int .i64 x) (u1 := .int .i64 y) (set_oth (b := w.heap.size) (i := 1) (v := .slice (some ⟨gh, 0, none⟩) hs.length ch) (set_oth (b := w.heap.size) (i := 0) (v := .slice (some ⟨g, 0, none⟩) n c) T2 (by omega)) (by omega))
  obtain ⟨v0, v1, _, _⟩ := blk2 T'
  obtain ⟨v2, v3, _, _⟩ := blk2 T2'
  refine bodyPost_ret (v := .tuple #[.agg #[.slice (some ⟨g, 0, none⟩) n c, .slice (some ⟨gh, 0, none⟩) hs.length ch], .agg #[.int .i64 x, .int .i64 y]]) (by simp [results, Try.results16, go_sem, v0, v1, v2, v3]) rfl ?_
  refine ⟨⟨g, n, c, l⟩, _, hs, x, y, rfl, hPB, ((((hD.set (by omega) _).set (by omega) _).set (by omega) _).set (by omega) _).mono (by omega), ⟨hs3, hst⟩, ?_⟩
  exact (((KK.setCell (p := ⟨w.heap.size, 0, none⟩) (Nat.le_refl _) _).setCell (p := ⟨w.heap.size, 1, none⟩) (Nat.le_refl _) _).setCell (p := ⟨w.heap.size + 1, 0, none⟩) (Nat.le_succ _) _).setCell (p := ⟨w.heap.size + 1, 1, none⟩) (Nat.le_succ _) _
set_option maxRecDepth 100000 in
set_option maxHeartbeats 2000000 in
theorem drawPlateEdges_any {a : Option Addr} {len0 cap : Nat} {zs : List Int} (w0 w : World) (h : IsRow .u8 w0 a len0 cap zs) (hb : Below w0.heap.size w0 w) :
    Calls Try.prog 22 #[.slice a len0 cap] w fun e w' => ∃ (o : LoopT) (hv : Value) (hs : List LoopT), e = .returned (.agg #[o.v, hv]) ∧ PlD w.heap.size w' o hv hs ∧ (hs.length ≤ 3 ∧ Seat hv) ∧ Below w.heap.size w w' := by
  obtain ⟨W, hW, BW, T⟩ := boxes1' w (.cells #[.slice none 0 0, .slice none 0 0] 26)
  go_enter Try.func22, Try.ntmps22
  go_wp2_with fail
  rw [← hW]
  clear hW
  refine (open_rd w0 _ h (bw_trans hb BW)).mono ?_
  rintro e w1 ⟨len, rfl, R, hb1⟩
  have zT := blk_lt T
  replace T := keep hb1 T
  have K := bw_trans BW hb1
  have z1 := hb1.size
  have zr := R.lt
  clear hb1 BW
  go_wp2_with fail
  refine (plate_any 0 a len cap _ _ (by omega) R).mono ?_
  clear R
  rintro e w2 ⟨⟨g, n, c, l⟩, hv, hs, k2, he, hD, ⟨hs3, hst⟩, hk2, R, P⟩
  obtain rfl : e = .returned (.agg #[.slice (some ⟨g, 0, none⟩) n c, hv]) := he
  replace T := keepO P T (by omega)
  have KK := K.trans (P.below' (B := w.heap.size) (by omega) (by omega))
  obtain ⟨gh, ch, rfl⟩ : ∃ gh ch, hv = .slice (some ⟨gh, 0, none⟩) hs.length ch := own_seat hD.2.2.1 hst
  obtain ⟨a0, a1, af0, af1⟩ := blk2 T
  go_wp2_with fail
  have T' := setB2 (u0 := .slice (some ⟨g, 0, none⟩) n c) (u1 := .slice (some ⟨gh, 0, none⟩) hs.length ch) T
  obtain ⟨v0, v1, _, _⟩ := blk2 T'
  refine bodyPost_ret (v := .agg #[.slice (some ⟨g, 0, none⟩) n c, .slice (some ⟨gh, 0, none⟩) hs.length ch]) (by simp [results, Try.results22, go_sem, v0, v1]) rfl ?_
  exact ⟨⟨g, n, c, l⟩, _, hs, rfl, ((hD.set (by omega) _).set (by omega) _).mono (by omega), ⟨hs3, hst⟩, (KK.setCell (p := ⟨w.heap.size, 0, none⟩) (Nat.le_refl _) _).setCell (p := ⟨w.heap.size, 1, none⟩) (Nat.le_refl _) _⟩
set_option maxRecDepth 100000 in
set_option maxHeartbeats 8000000 in
theorem drawPlateOk_any {a : Option Addr} {len0 cap : Nat} {zs : List Int} (w0 w : World) (h : IsRow .u8 w0 a len0 cap zs) (hb : Below w0.heap.size w0 w) :
    Calls Try.prog 10 #[.slice a len0 cap] w fun e w' => ∃ (o : LoopT) (hv : Value) (hs : List LoopT), e = .returned (.agg #[o.v, hv]) ∧ PlD w.heap.size w' o hv hs ∧ (hs.length ≤ 4 ∧ Seat hv) ∧ Below w.heap.size w w' := by
  obtain ⟨i0, hi0, hz0, hz1, hz2⟩ := info_parts Try.infoPts
  obtain ⟨W, hW, BW, T⟩ := boxes1' w (.cells #[.slice none 0 0, .slice none 0 0] 26)
  go_enter Try.func10, Try.ntmps10
  go_wp2_with fail
  rw [← hW]
  clear hW
  refine (open_rd w0 _ h (bw_trans hb BW)).mono ?_
  rintro e wb ⟨len, rfl, R, hb1⟩
  have zT := blk_lt T
  have Z : Lies w.heap.size #[.slice none 0 0, .slice none 0 0] 26 wb := keep hb1 T
  have K := bw_trans BW hb1
  have z1 := hb1.size
  have hlt := R.lt
  clear hb1 BW T
  generalize W.heap.size = r at *
  go_wp2_with fail
  refine (plate_any 0 a len cap r _ (by omega) R).mono ?_
  clear R
  rintro e w1 ⟨⟨g, n, c, l⟩, hv, hs, k1, he, hD, ⟨hs2, hst⟩, hk1, R, P⟩
  obtain rfl : e = .returned (.agg #[.slice (some ⟨g, 0, none⟩) n c, hv]) := he
  obtain ⟨gh, ch, rfl⟩ : ∃ gh ch, hv = .slice (some ⟨gh, 0, none⟩) hs.length ch := own_seat hD.2.2.1 hst
  replace Z : Lies w.heap.size #[.slice none 0 0, .slice none 0 0] 26 w1 := keepO P Z (by omega)
  have zw1 := P.size
  have Bq : Below w1.heap.size w1 (w1.alloc (.cells #[.slice (some ⟨g, 0, none⟩) n c, .slice (some ⟨gh, 0, none⟩) hs.length ch] 26)) := (by repeat (first | exact bw_refl _ | assumption | apply bw_drewN | apply bw_drew | apply bw_alloc | refine bw_set ?_ (by simp) _))
  have Lp : Lies w1.heap.size #[.slice (some ⟨g, 0, none⟩) n c, .slice (some ⟨gh, 0, none⟩) hs.length ch] 26 (w1.alloc (.cells #[.slice (some ⟨g, 0, none⟩) n c, .slice (some ⟨gh, 0, none⟩) hs.length ch] 26)) := Lies.new w1 _ _
  have hgs : ∀ t ∈ hs, t.g < w1.heap.size := fun t ht => (hD.2.2.2 t ht).lt
  have hgw : g < w1.heap.size := hD.1.lt
  have hghw : gh < w1.heap.size := (hD.2.2.1.lt gh rfl).2
  have hghb : wb.heap.size ≤ gh := (hD.2.2.1.lt gh rfl).1
  replace R := R.below Bq
  replace P := P.trans (Only.of_below Bq)
  replace Z := Z.below Bq
  replace hD := hD.below Bq
  clear Bq
  go_wp2_with fail
  refine (pick_rd 4 k1 a len cap r _ (by omega) (by omega) R).mono ?_
  clear R
  rintro e w2 ⟨q, rfl, qa, qb, R, O⟩
  replace P := P.trans O
  replace Z : Lies w.heap.size #[.slice none 0 0, .slice none 0 0] 26 w2 := keepO O Z (by omega)
  replace Lp : Lies w1.heap.size #[.slice (some ⟨g, 0, none⟩) n c, .slice (some ⟨gh, 0, none⟩) hs.length ch] 26 w2 := keepO O Lp (by omega)
  replace hD := hD.only O (by omega)
  clear O
  obtain ⟨d0, d1, f0, f1⟩ := lies2 Lp
  obtain ⟨y0, y1, yf0, yf1⟩ := lies2 Z
  have z2 := Lp.lt
  have hmx : Try.prog.follows .mixedOrders = true := by kernel_rfl
  have hmax : hs.length + 1 ≤ maxLen := by simp [maxLen]; omega
  by_cases hq : q = 0
  case neg =>
    have e0 : (q == 0) = false := by simpa using hq
    have KK := K.trans (P.below' (B := w.heap.size) (by omega) (by omega))
    have Z1 := setB2 (u0 := .slice (some ⟨g, 0, none⟩) n c) (u1 := .slice (some ⟨gh, 0, none⟩) hs.length ch) Z
    obtain ⟨v0, v1, _, _⟩ := lies2 Z1
    go_wp2_with fail
    refine bodyPost_ret (v := .agg #[.slice (some ⟨g, 0, none⟩) n c, .slice (some ⟨gh, 0, none⟩) hs.length ch]) (by simp [results, Try.results10, go_sem, v0, v1]) rfl ?_
    exact ⟨⟨g, n, c, l⟩, _, hs, rfl, ((hD.set (by omega) _).set (by omega) _).mono (by omega), ⟨by omega, hst⟩, (KK.setCell (p := ⟨w.heap.size, 0, none⟩) (Nat.le_refl _) _).setCell (p := ⟨w.heap.size, 1, none⟩) (Nat.le_refl _) _⟩
  case pos =>
    subst hq
    have hX := loop_any (k1 + 1) a len cap r w2.drew (by omega) R.drew
    have PD := P.drew
    have ZD : Lies w.heap.size #[.slice none 0 0, .slice none 0 0] 26 w2.drew := Z
    have LpD : Lies w1.heap.size #[.slice (some ⟨g, 0, none⟩) n c, .slice (some ⟨gh, 0, none⟩) hs.length ch] 26 w2.drew := Lp
    have hDD : PlD wb.heap.size w2.drew ⟨g, n, c, l⟩ (.slice (some ⟨gh, 0, none⟩) hs.length ch) hs := hD.below (bw_drew (bw_refl _))
    go_wp2_with fail
    refine wp_region_held (S := fun _ => True) hmx ?_
    refine wpAnyH_take (i := 0) (v := .pointer (some ⟨w1.heap.size, 1, none⟩)) rfl (by kernel_rfl) (by kernel_rfl) (by kernel_rfl) (fun _ _ _ h => h) (Or.inl ⟨by rfl, by intro w' _; go_simp⟩) trivial ?_
    refine wpAnyH_take (i := 2) (v := .pointer (some ⟨r, 0, none⟩)) rfl (by kernel_rfl) (by kernel_rfl) (by kernel_rfl) (fun _ _ _ h => h) (Or.inl ⟨by rfl, by intro w' _; go_simp⟩) trivial ?_
    refine wpAnyH_all (rs := [1, 3]) (by kernel_rfl) (by simp) ?_
    intro i hi
    have hi' : i = 1 ∨ i = 3 := by simpa using hi
    clear hi
    rcases hi' with rfl | rfl
    · skip
      refine YieldsIf.wpOp (S := fun w' => w' = w2.drew) (v := .slice (some ⟨gh, 0, none⟩) hs.length ch) rfl (Or.inl ⟨by rfl, by rintro w' rfl; go_simp⟩) rfl ⟨trivial, ?_⟩
      refine wpAnyH_all (rs := [3]) (by kernel_rfl) (by simp) ?_
      intro i hi
      obtain rfl : i = 3 := by simpa using hi
      refine wpOp_now rfl (by rfl) ?_
      go_simp
      refine hX.mono ?_
      rintro e w3 ⟨g3, n3, c3, l3, k3, rfl, h3, h7, hl3, hc3, hm3, hb3, hB3, hk3, R3, O3⟩
      have P3 := PD.trans O3
      have Z3 : Lies w.heap.size #[.slice none 0 0, .slice none 0 0] 26 w3 := keepO O3 ZD (by omega)
      have Lp3 : Lies w1.heap.size #[.slice (some ⟨g, 0, none⟩) n c, .slice (some ⟨gh, 0, none⟩) hs.length ch] 26 w3 := keepO O3 LpD (by omega)
      have hD3 := hDD.only O3 (by omega)
      obtain ⟨d03, d13, f03, f13⟩ := lies2 Lp3
      have zz3 := Lp3.lt
      have zr3 := R3.lt
      have zg3 := hB3.lt
      have hb3' : w2.heap.size ≤ g3 := hb3
      refine wpAnyH_all (rs := [4]) (by kernel_rfl) (by simp) ?_
      intro i hi
      obtain rfl : i = 4 := by simpa using hi
      refine wpOp_now rfl (by rfl) ?_
      go_simp
      refine wpAnyH_all (rs := [5]) (by kernel_rfl) (by simp) ?_
      intro i hi
      obtain rfl : i = 5 := by simpa using hi
      refine wpOp_now rfl (by rfl) ?_
      refine wp_append_lies _ _ _ _ (by rfl) wb.heap.size 23 i0 _ 1 24 Try.underlying24 hi0 hz0 hz1 hz2 rfl (by omega) _ hs.length _ (by rfl) (hD3.2.2.1.alloc _) ⟨w3.heap.size, 0, none⟩ 1 1 [.slice (some ⟨g3, 0, none⟩) n3 c3] (by rfl) (by rfl) (World.news_of_block (cs := #[.slice (some ⟨g3, 0, none⟩) n3 c3]) (t := 23) (fr := (0, 0)) (heap_alloc_new w3 _)) (by simp [Value.oneCell']) (by omega) hmax (by omega) (by simp; omega) (w3.heap.size + 1) (by simp) ?_
      intro gg cg w5 hown5 hgr5 hat5 hlt5
      refine ⟨trivial, ?_⟩
      simp only [Act.put, List.setIfInBounds_toArray]
      refine wpAnyH_take (i := 6) (v := .pointer (some ⟨w1.heap.size, 1, none⟩)) rfl (by kernel_rfl) (by kernel_rfl) (by kernel_rfl) (fun _ _ _ h => h) (Or.inl ⟨by rfl, by intro w' _; go_simp⟩) trivial ?_
      refine wpAnyH_all (rs := [7]) (by kernel_rfl) (by simp) ?_
      intro i hi
      obtain rfl : i = 7 := by simpa using hi
      have Bq : Below w3.heap.size w3 (w3.alloc (.cells #[.slice (some ⟨g3, 0, none⟩) n3 c3] 23)) := (by repeat (first | exact bw_refl _ | assumption | apply bw_drewN | apply bw_drew | apply bw_alloc | refine bw_set ?_ (by simp) _))
      have Lp5 := lies_grown (Lp3.alloc _) hgr5 (fun e => by have e' : w1.heap.size = gh := Option.some.inj e; omega)
      have Z5' := lies_grown (Z3.alloc _) hgr5 (fun e => by have e' : w.heap.size = gh := Option.some.inj e; omega)
      obtain ⟨d05, d15, f05, f15⟩ := lies2 Lp5
      refine wpOp_now rfl (by rfl) ?_
      go_simp
      refine wpAnyH_done (by kernel_rfl) ?_ _
      simp only [Exit.then]
      have hne3 : ∀ t : LoopT, t.ok wb.heap.size w3 → some t.g ≠ Value.ownBlock (.slice (some ⟨gh, 0, none⟩) hs.length ch) := fun t ht e => by obtain ⟨_, _, _, _, _, _, h7⟩ := ht; exact blk_ne_own h7 hD3.2.2.1 (Option.some.inj e)
      have hggn : gg ≠ w1.heap.size := hat5.elim (fun e => by have e' : gh = gg := Option.some.inj e; omega) (fun e => by omega)
      have O5 : Only w1.heap.size w5 (w5.setCell ⟨w1.heap.size, 1, none⟩ (.slice (some ⟨gg, 0, none⟩) (hs.length + 1) cg)) := (Only.refl w1.heap.size w5).set (.inl rfl) _
      have keep5 : ∀ t : LoopT, t.ok wb.heap.size w3 → t.g ≠ w1.heap.size → t.ok wb.heap.size (w5.setCell ⟨w1.heap.size, 1, none⟩ (.slice (some ⟨gg, 0, none⟩) (hs.length + 1) cg)) := fun t ht hne => ((ht.below Bq).grown hgr5 (hne3 t ht)).only' O5 hne
      have hr5 := own_only' hown5 O5 (fun e => hggn (Option.some.inj e))
      have hD4 : PlD wb.heap.size (w5.setCell ⟨w1.heap.size, 1, none⟩ (.slice (some ⟨gg, 0, none⟩) (hs.length + 1) cg)) ⟨g, n, c, l⟩ (.slice (some ⟨gg, 0, none⟩) (hs.length + 1) cg) (hs ++ [(⟨g3, n3, c3, l3⟩ : LoopT)]) := by
        refine ⟨keep5 _ hD3.1 (by show g ≠ _; omega), by simp; omega, by simpa [LoopT.v] using hr5, fun t ht => ?_⟩
        rcases List.mem_append.1 ht with h | h
        · exact keep5 t (hD3.2.2.2 t h) (Nat.ne_of_lt (hgs t h))
        · obtain rfl : t = ⟨g3, n3, c3, l3⟩ := by simpa using h
          exact keep5 _ ⟨h3, by show n3 ≤ 8; omega, hl3, hc3, hm3, by show wb.heap.size ≤ g3; omega, hB3⟩ (by show g3 ≠ _; omega)
      have P4 := ((P3.trans (Only.of_below Bq)).grown hgr5 (fun j e => by have e' : gh = j := Option.some.inj e; omega)).set (p := ⟨w1.heap.size, 1, none⟩) (.inr (by show wb.heap.size ≤ w1.heap.size; omega)) (.slice (some ⟨gg, 0, none⟩) (hs.length + 1) cg)
      have KK := K.trans (P4.below' (B := w.heap.size) (by omega) (by omega))
      have L4 := lies_set1 (z := .slice (some ⟨gg, 0, none⟩) (hs.length + 1) cg) Lp5
      have Z4 : Lies w.heap.size #[.slice none 0 0, .slice none 0 0] 26 (w5.setCell ⟨w1.heap.size, 1, none⟩ (.slice (some ⟨gg, 0, none⟩) (hs.length + 1) cg)) := set_oth Z5' (by omega)
      clear hown5 hgr5 hat5 hlt5 keep5 hr5 O5 hne3 hD3 Lp3 Z3 R3 P3 Lp5 Z5' d03 d13 f03 f13 d05 d15 f05 f15 Bq hB3 O3 hX PD ZD LpD hDD
      generalize w5.setCell ⟨w1.heap.size, 1, none⟩ (.slice (some ⟨gg, 0, none⟩) (hs.length + 1) cg) = x4 at *
      clear y0 y1 yf0 yf1 d0 d1 f0 f1
      obtain ⟨d0, d1, f0, f1⟩ := lies2 L4
      obtain ⟨y0, y1, yf0, yf1⟩ := lies2 Z4
      have Z5 := setB2 (u0 := .slice (some ⟨g, 0, none⟩) n c) (u1 := .slice (some ⟨gg, 0, none⟩) (hs.length + 1) cg) Z4
      obtain ⟨v0, v1, _, _⟩ := lies2 Z5
      go_wp2_with fail
      refine bodyPost_ret (v := .agg #[.slice (some ⟨g, 0, none⟩) n c, .slice (some ⟨gg, 0, none⟩) (hs.length + 1) cg]) (by simp [results, Try.results10, go_sem, v0, v1]) rfl ?_
      exact ⟨⟨g, n, c, l⟩, _, hs ++ [(⟨g3, n3, c3, l3⟩ : LoopT)], rfl, ((hD4.set (by omega) _).set (by omega) _).mono (by omega), ⟨by simp; omega, ⟨_, _, _, rfl⟩⟩, (KK.setCell (p := ⟨w.heap.size, 0, none⟩) (Nat.le_refl _) _).setCell (p := ⟨w.heap.size, 1, none⟩) (Nat.le_refl _) _⟩
    · skip
      refine wpOp_now rfl (by rfl) ?_
      go_simp
      refine hX.mono ?_
      rintro e w3 ⟨g3, n3, c3, l3, k3, rfl, h3, h7, hl3, hc3, hm3, hb3, hB3, hk3, R3, O3⟩
      have P3 := PD.trans O3
      have Z3 : Lies w.heap.size #[.slice none 0 0, .slice none 0 0] 26 w3 := keepO O3 ZD (by omega)
      have Lp3 : Lies w1.heap.size #[.slice (some ⟨g, 0, none⟩) n c, .slice (some ⟨gh, 0, none⟩) hs.length ch] 26 w3 := keepO O3 LpD (by omega)
      have hD3 := hDD.only O3 (by omega)
      obtain ⟨d03, d13, f03, f13⟩ := lies2 Lp3
      have zz3 := Lp3.lt
      have zr3 := R3.lt
      have zg3 := hB3.lt
      have hb3' : w2.heap.size ≤ g3 := hb3
      refine wpAnyH_all (rs := [1, 4]) (by kernel_rfl) (by simp) ?_
      intro i hi
      have hi' : i = 1 ∨ i = 4 := by simpa using hi
      clear hi
      rcases hi' with rfl | rfl
      · skip
        refine YieldsIf.wpOp (S := fun w' => w' = w3) (v := .slice (some ⟨gh, 0, none⟩) hs.length ch) rfl (Or.inl ⟨by rfl, by rintro w' rfl; go_simp⟩) rfl ⟨trivial, ?_⟩
        refine wpAnyH_all (rs := [4]) (by kernel_rfl) (by simp) ?_
        intro i hi
        obtain rfl : i = 4 := by simpa using hi
        refine wpOp_now rfl (by rfl) ?_
        go_simp
        refine wpAnyH_all (rs := [5]) (by kernel_rfl) (by simp) ?_
        intro i hi
        obtain rfl : i = 5 := by simpa using hi
        refine wpOp_now rfl (by rfl) ?_
        refine wp_append_lies _ _ _ _ (by rfl) wb.heap.size 23 i0 _ 1 24 Try.underlying24 hi0 hz0 hz1 hz2 rfl (by omega) _ hs.length _ (by rfl) (hD3.2.2.1.alloc _) ⟨w3.heap.size, 0, none⟩ 1 1 [.slice (some ⟨g3, 0, none⟩) n3 c3] (by rfl) (by rfl) (World.news_of_block (cs := #[.slice (some ⟨g3, 0, none⟩) n3 c3]) (t := 23) (fr := (0, 0)) (heap_alloc_new w3 _)) (by simp [Value.oneCell']) (by omega) hmax (by omega) (by simp; omega) (w3.heap.size + 1) (by simp) ?_
        intro gg cg w5 hown5 hgr5 hat5 hlt5
        refine ⟨trivial, ?_⟩
        simp only [Act.put, List.setIfInBounds_toArray]
        refine wpAnyH_take (i := 6) (v := .pointer (some ⟨w1.heap.size, 1, none⟩)) rfl (by kernel_rfl) (by kernel_rfl) (by kernel_rfl) (fun _ _ _ h => h) (Or.inl ⟨by rfl, by intro w' _; go_simp⟩) trivial ?_
        refine wpAnyH_all (rs := [7]) (by kernel_rfl) (by simp) ?_
        intro i hi
        obtain rfl : i = 7 := by simpa using hi
        have Bq : Below w3.heap.size w3 (w3.alloc (.cells #[.slice (some ⟨g3, 0, none⟩) n3 c3] 23)) := (by repeat (first | exact bw_refl _ | assumption | apply bw_drewN | apply bw_drew | apply bw_alloc | refine bw_set ?_ (by simp) _))
        have Lp5 := lies_grown (Lp3.alloc _) hgr5 (fun e => by have e' : w1.heap.size = gh := Option.some.inj e; omega)
        have Z5' := lies_grown (Z3.alloc _) hgr5 (fun e => by have e' : w.heap.size = gh := Option.some.inj e; omega)
        obtain ⟨d05, d15, f05, f15⟩ := lies2 Lp5
        refine wpOp_now rfl (by rfl) ?_
        go_simp
        refine wpAnyH_done (by kernel_rfl) ?_ _
        simp only [Exit.then]
        have hne3 : ∀ t : LoopT, t.ok wb.heap.size w3 → some t.g ≠ Value.ownBlock (.slice (some ⟨gh, 0, none⟩) hs.length ch) := fun t ht e => by obtain ⟨_, _, _, _, _, _, h7⟩ := ht; exact blk_ne_own h7 hD3.2.2.1 (Option.some.inj e)
        have hggn : gg ≠ w1.heap.size := hat5.elim (fun e => by have e' : gh = gg := Option.some.inj e; omega) (fun e => by omega)
        have O5 : Only w1.heap.size w5 (w5.setCell ⟨w1.heap.size, 1, none⟩ (.slice (some ⟨gg, 0, none⟩) (hs.length + 1) cg)) := (Only.refl w1.heap.size w5).set (.inl rfl) _
        have keep5 : ∀ t : LoopT, t.ok wb.heap.size w3 → t.g ≠ w1.heap.size → t.ok wb.heap.size (w5.setCell ⟨w1.heap.size, 1, none⟩ (.slice (some ⟨gg, 0, none⟩) (hs.length + 1) cg)) := fun t ht hne => ((ht.below Bq).grown hgr5 (hne3 t ht)).only' O5 hne
        have hr5 := own_only' hown5 O5 (fun e => hggn (Option.some.inj e))
        have hD4 : PlD wb.heap.size (w5.setCell ⟨w1.heap.size, 1, none⟩ (.slice (some ⟨gg, 0, none⟩) (hs.length + 1) cg)) ⟨g, n, c, l⟩ (.slice (some ⟨gg, 0, none⟩) (hs.length + 1) cg) (hs ++ [(⟨g3, n3, c3, l3⟩ : LoopT)]) := by
          refine ⟨keep5 _ hD3.1 (by show g ≠ _; omega), by simp; omega, by simpa [LoopT.v] using hr5, fun t ht => ?_⟩
          rcases List.mem_append.1 ht with h | h
          · exact keep5 t (hD3.2.2.2 t h) (Nat.ne_of_lt (hgs t h))
          · obtain rfl : t = ⟨g3, n3, c3, l3⟩ := by simpa using h
            exact keep5 _ ⟨h3, by show n3 ≤ 8; omega, hl3, hc3, hm3, by show wb.heap.size ≤ g3; omega, hB3⟩ (by show g3 ≠ _; omega)
        have P4 := ((P3.trans (Only.of_below Bq)).grown hgr5 (fun j e => by have e' : gh = j := Option.some.inj e; omega)).set (p := ⟨w1.heap.size, 1, none⟩) (.inr (by show wb.heap.size ≤ w1.heap.size; omega)) (.slice (some ⟨gg, 0, none⟩) (hs.length + 1) cg)
        have KK := K.trans (P4.below' (B := w.heap.size) (by omega) (by omega))
        have L4 := lies_set1 (z := .slice (some ⟨gg, 0, none⟩) (hs.length + 1) cg) Lp5
        have Z4 : Lies w.heap.size #[.slice none 0 0, .slice none 0 0] 26 (w5.setCell ⟨w1.heap.size, 1, none⟩ (.slice (some ⟨gg, 0, none⟩) (hs.length + 1) cg)) := set_oth Z5' (by omega)
        clear hown5 hgr5 hat5 hlt5 keep5 hr5 O5 hne3 hD3 Lp3 Z3 R3 P3 Lp5 Z5' d03 d13 f03 f13 d05 d15 f05 f15 Bq hB3 O3 hX PD ZD LpD hDD
        generalize w5.setCell ⟨w1.heap.size, 1, none⟩ (.slice (some ⟨gg, 0, none⟩) (hs.length + 1) cg) = x4 at *
        clear y0 y1 yf0 yf1 d0 d1 f0 f1
        obtain ⟨d0, d1, f0, f1⟩ := lies2 L4
        obtain ⟨y0, y1, yf0, yf1⟩ := lies2 Z4
        have Z5 := setB2 (u0 := .slice (some ⟨g, 0, none⟩) n c) (u1 := .slice (some ⟨gg, 0, none⟩) (hs.length + 1) cg) Z4
        obtain ⟨v0, v1, _, _⟩ := lies2 Z5
        go_wp2_with fail
        refine bodyPost_ret (v := .agg #[.slice (some ⟨g, 0, none⟩) n c, .slice (some ⟨gg, 0, none⟩) (hs.length + 1) cg]) (by simp [results, Try.results10, go_sem, v0, v1]) rfl ?_
        exact ⟨⟨g, n, c, l⟩, _, hs ++ [(⟨g3, n3, c3, l3⟩ : LoopT)], rfl, ((hD4.set (by omega) _).set (by omega) _).mono (by omega), ⟨by simp; omega, ⟨_, _, _, rfl⟩⟩, (KK.setCell (p := ⟨w.heap.size, 0, none⟩) (Nat.le_refl _) _).setCell (p := ⟨w.heap.size, 1, none⟩) (Nat.le_refl _) _⟩
      · skip
        refine wpOp_now rfl (by rfl) ?_
        go_simp
        refine wpAnyH_all (rs := [1]) (by kernel_rfl) (by simp) ?_
        intro i hi
        obtain rfl : i = 1 := by simpa using hi
        refine YieldsIf.wpOp (S := fun w' => w' = w3.alloc (.cells #[.slice (some ⟨g3, 0, none⟩) n3 c3] 23)) (v := .slice (some ⟨gh, 0, none⟩) hs.length ch) rfl (Or.inl ⟨by rfl, by rintro w' rfl; go_simp⟩) rfl ⟨trivial, ?_⟩
        refine wpAnyH_all (rs := [5]) (by kernel_rfl) (by simp) ?_
        intro i hi
        obtain rfl : i = 5 := by simpa using hi
        refine wpOp_now rfl (by rfl) ?_
        refine wp_append_lies _ _ _ _ (by rfl) wb.heap.size 23 i0 _ 1 24 Try.underlying24 hi0 hz0 hz1 hz2 rfl (by omega) _ hs.length _ (by rfl) (hD3.2.2.1.alloc _) ⟨w3.heap.size, 0, none⟩ 1 1 [.slice (some ⟨g3, 0, none⟩) n3 c3] (by rfl) (by rfl) (World.news_of_block (cs := #[.slice (some ⟨g3, 0, none⟩) n3 c3]) (t := 23) (fr := (0, 0)) (heap_alloc_new w3 _)) (by simp [Value.oneCell']) (by omega) hmax (by omega) (by simp; omega) (w3.heap.size + 1) (by simp) ?_
        intro gg cg w5 hown5 hgr5 hat5 hlt5
        refine ⟨trivial, ?_⟩
        simp only [Act.put, List.setIfInBounds_toArray]
        refine wpAnyH_take (i := 6) (v := .pointer (some ⟨w1.heap.size, 1, none⟩)) rfl (by kernel_rfl) (by kernel_rfl) (by kernel_rfl) (fun _ _ _ h => h) (Or.inl ⟨by rfl, by intro w' _; go_simp⟩) trivial ?_
        refine wpAnyH_all (rs := [7]) (by kernel_rfl) (by simp) ?_
        intro i hi
        obtain rfl : i = 7 := by simpa using hi
        have Bq : Below w3.heap.size w3 (w3.alloc (.cells #[.slice (some ⟨g3, 0, none⟩) n3 c3] 23)) := (by repeat (first | exact bw_refl _ | assumption | apply bw_drewN | apply bw_drew | apply bw_alloc | refine bw_set ?_ (by simp) _))
        have Lp5 := lies_grown (Lp3.alloc _) hgr5 (fun e => by have e' : w1.heap.size = gh := Option.some.inj e; omega)
        have Z5' := lies_grown (Z3.alloc _) hgr5 (fun e => by have e' : w.heap.size = gh := Option.some.inj e; omega)
        obtain ⟨d05, d15, f05, f15⟩ := lies2 Lp5
        refine wpOp_now rfl (by rfl) ?_
        go_simp
        refine wpAnyH_done (by kernel_rfl) ?_ _
        simp only [Exit.then]
        have hne3 : ∀ t : LoopT, t.ok wb.heap.size w3 → some t.g ≠ Value.ownBlock (.slice (some ⟨gh, 0, none⟩) hs.length ch) := fun t ht e => by obtain ⟨_, _, _, _, _, _, h7⟩ := ht; exact blk_ne_own h7 hD3.2.2.1 (Option.some.inj e)
        have hggn : gg ≠ w1.heap.size := hat5.elim (fun e => by have e' : gh = gg := Option.some.inj e; omega) (fun e => by omega)
        have O5 : Only w1.heap.size w5 (w5.setCell ⟨w1.heap.size, 1, none⟩ (.slice (some ⟨gg, 0, none⟩) (hs.length + 1) cg)) := (Only.refl w1.heap.size w5).set (.inl rfl) _
        have keep5 : ∀ t : LoopT, t.ok wb.heap.size w3 → t.g ≠ w1.heap.size → t.ok wb.heap.size (w5.setCell ⟨w1.heap.size, 1, none⟩ (.slice (some ⟨gg, 0, none⟩) (hs.length + 1) cg)) := fun t ht hne => ((ht.below Bq).grown hgr5 (hne3 t ht)).only' O5 hne
        have hr5 := own_only' hown5 O5 (fun e => hggn (Option.some.inj e))
        have hD4 : PlD wb.heap.size (w5.setCell ⟨w1.heap.size, 1, none⟩ (.slice (some ⟨gg, 0, none⟩) (hs.length + 1) cg)) ⟨g, n, c, l⟩ (.slice (some ⟨gg, 0, none⟩) (hs.length + 1) cg) (hs ++ [(⟨g3, n3, c3, l3⟩ : LoopT)]) := by
          refine ⟨keep5 _ hD3.1 (by show g ≠ _; omega), by simp; omega, by simpa [LoopT.v] using hr5, fun t ht => ?_⟩
          rcases List.mem_append.1 ht with h | h
          · exact keep5 t (hD3.2.2.2 t h) (Nat.ne_of_lt (hgs t h))
          · obtain rfl : t = ⟨g3, n3, c3, l3⟩ := by simpa using h
            exact keep5 _ ⟨h3, by show n3 ≤ 8; omega, hl3, hc3, hm3, by show wb.heap.size ≤ g3; omega, hB3⟩ (by show g3 ≠ _; omega)
        have P4 := ((P3.trans (Only.of_below Bq)).grown hgr5 (fun j e => by have e' : gh = j := Option.some.inj e; omega)).set (p := ⟨w1.heap.size, 1, none⟩) (.inr (by show wb.heap.size ≤ w1.heap.size; omega)) (.slice (some ⟨gg, 0, none⟩) (hs.length + 1) cg)
        have KK := K.trans (P4.below' (B := w.heap.size) (by omega) (by omega))
        have L4 := lies_set1 (z := .slice (some ⟨gg, 0, none⟩) (hs.length + 1) cg) Lp5
        have Z4 : Lies w.heap.size #[.slice none 0 0, .slice none 0 0] 26 (w5.setCell ⟨w1.heap.size, 1, none⟩ (.slice (some ⟨gg, 0, none⟩) (hs.length + 1) cg)) := set_oth Z5' (by omega)
        clear hown5 hgr5 hat5 hlt5 keep5 hr5 O5 hne3 hD3 Lp3 Z3 R3 P3 Lp5 Z5' d03 d13 f03 f13 d05 d15 f05 f15 Bq hB3 O3 hX PD ZD LpD hDD
        generalize w5.setCell ⟨w1.heap.size, 1, none⟩ (.slice (some ⟨gg, 0, none⟩) (hs.length + 1) cg) = x4 at *
        clear y0 y1 yf0 yf1 d0 d1 f0 f1
        obtain ⟨d0, d1, f0, f1⟩ := lies2 L4
        obtain ⟨y0, y1, yf0, yf1⟩ := lies2 Z4
        have Z5 := setB2 (u0 := .slice (some ⟨g, 0, none⟩) n c) (u1 := .slice (some ⟨gg, 0, none⟩) (hs.length + 1) cg) Z4
        obtain ⟨v0, v1, _, _⟩ := lies2 Z5
        go_wp2_with fail
        refine bodyPost_ret (v := .agg #[.slice (some ⟨g, 0, none⟩) n c, .slice (some ⟨gg, 0, none⟩) (hs.length + 1) cg]) (by simp [results, Try.results10, go_sem, v0, v1]) rfl ?_
        exact ⟨⟨g, n, c, l⟩, _, hs ++ [(⟨g3, n3, c3, l3⟩ : LoopT)], rfl, ((hD4.set (by omega) _).set (by omega) _).mono (by omega), ⟨by simp; omega, ⟨_, _, _, rfl⟩⟩, (KK.setCell (p := ⟨w.heap.size, 0, none⟩) (Nat.le_refl _) _).setCell (p := ⟨w.heap.size, 1, none⟩) (Nat.le_refl _) _⟩
end Go.Proofs.Ythedlopfjlnogaa
namespace Go.Proofs.Ythedlopfjlnogaa
open Go.RowKit

theorem boxes1 (w : World) (o : Obj) : ∃ W, W = w.alloc o ∧ Below w.heap.size w W ∧ W.heap[w.heap.size]? = some o := ⟨_, rfl, (by repeat (first | exact bw_refl _ | assumption | apply bw_drewN | apply bw_drew | apply bw_alloc | refine bw_set ?_ (by simp) _)), heap_new _ _⟩
theorem luMirror_ok (x y : Int) (w : World) (h : ptB x y = true) :
    Calls Try.prog 94 #[.agg #[.int .i64 x, .int .i64 y]] w fun e w' => e = .returned (.agg #[.int .i64 (9-x), .int .i64 y]) ∧ Below w.heap.size w w' := by
  rw [ptB_iff] at h
  go_enter Try.func94, Try.ntmps94
  go_wp2
  exact bodyPost_ret (v := .agg #[.int .i64 (9-x), .int .i64 y]) (by simp [results, Try.results94, go_sem]) rfl ⟨rfl, (by repeat (first | exact bw_refl _ | assumption | apply bw_drewN | apply bw_drew | apply bw_alloc | refine bw_set ?_ (by simp) _))⟩
theorem luSwap_any (x y : Int) (w : World) :
    Calls Try.prog 93 #[.agg #[.int .i64 x, .int .i64 y]] w fun e w' => e = .returned (.agg #[.int .i64 y, .int .i64 x]) ∧ Below w.heap.size w w' := by
  go_enter Try.func93, Try.ntmps93
  go_wp2
  exact bodyPost_ret (v := .agg #[.int .i64 y, .int .i64 x]) (by simp [results, Try.results93, go_sem]) rfl ⟨rfl, (by repeat (first | exact bw_refl _ | assumption | apply bw_drewN | apply bw_drew | apply bw_alloc | refine bw_set ?_ (by simp) _))⟩
theorem pt_mir {x y : Int} (h : ptB x y = true) : ptB (9 - x) y = true := by rw [ptB_iff] at *; omega
theorem pt_swap {x y : Int} (h : ptB x y = true) : ptB y x = true := by rw [ptB_iff] at *; omega
end Go.Proofs.Ythedlopfjlnogaa
namespace Go.Proofs.Ythedlopfjlnogaa
open Go.RowKit

/-- Points that were handed back, in memory of their own. -/
def AnsP (w : World) (m : List P2) (e : Ending) (w' : World) : Prop :=
  ∃ g' c', e = .returned (.slice (some ⟨g', 0, none⟩) m.length c') ∧ PtBlk w' g' c' m m.length ∧ Below w.heap.size w w'
theorem blk_cell {W : World} {g c n : Nat} {l : List P2} (h : PtBlk W g c l n) (hl : l.length = n) : ∀ (i : Nat) u, (ptCells l)[i]? = some u → W.cell? ⟨g, i, none⟩ = some u := by
  obtain ⟨cur, hg, hs, hc⟩ := h
  intro i u hu
  have hi : i < n * 2 := by
    rcases Nat.lt_or_ge i (n * 2) with h | h
    · exact h
    · rw [List.getElem?_eq_none (by rw [ptCells_len]; omega)] at hu; cases hu
  rw [row_cell hg]
  obtain ⟨c0, c1⟩ := hc (i / 2) (by omega)
  obtain ⟨a0, a1⟩ := ptCells_at l (i / 2) (by omega)
  rcases Nat.mod_two_eq_zero_or_one i with e | e
  · have e' : i = i / 2 * 2 := by omega
    rw [e', a0] at hu; rw [e', c0]; exact hu
  · have e' : i = i / 2 * 2 + 1 := by omega
    rw [e', a1] at hu; rw [e', c1]; exact hu
theorem ptCells_drop (l : List P2) (k : Nat) : ptCells (l.drop k) = (ptCells l).drop (k * 2) := by
  induction l generalizing k with
  | nil => simp [ptCells]
  | cons p l ih =>
    cases k with
    | zero => simp
    | succ k =>
      have e : ptCells (p :: l) = .int .i64 p.1 :: .int .i64 p.2 :: ptCells l := rfl
      have e1 : (k + 1) * 2 = k * 2 + 1 + 1 := by omega
      rw [List.drop_succ_cons, ih, e, e1]; rfl
theorem ptCells_take (l : List P2) (k : Nat) : ptCells (l.take k) = (ptCells l).take (k * 2) := by
  induction l generalizing k with
  | nil => simp [ptCells]
  | cons p l ih =>
    cases k with
    | zero => simp [ptCells]
    | succ k =>
      have e : ptCells (p :: l) = .int .i64 p.1 :: .int .i64 p.2 :: ptCells l := rfl
      have e1 : (k + 1) * 2 = k * 2 + 1 + 1 := by omega
      rw [List.take_succ_cons, e, e1, List.take_succ_cons, List.take_succ_cons, ← ih]; rfl
theorem of_take {α : Type} {l : List α} {m j : Nat} {u : α} (h : (l.take m)[j]? = some u) : l[j]? = some u := by
  rw [List.getElem?_take] at h; split at h
  · exact h
  · cases h
theorem ptCells_append (a b : List P2) : ptCells (a ++ b) = ptCells a ++ ptCells b := by simp [ptCells]
theorem ptCells_one (l : List P2) : ∀ u ∈ ptCells l, u.oneCell' = true := by
  intro u hu
  simp only [ptCells, List.mem_flatMap, List.mem_cons, List.not_mem_nil, or_false] at hu
  obtain ⟨p, _, rfl | rfl⟩ := hu <;> rfl
theorem news_at {W : World} {g c n k : Nat} {l m : List P2} (h : PtBlk W g c l n) (hl : l.length = n) (hm : ∀ (j : Nat) u, (ptCells m)[j]? = some u → (ptCells l)[k * 2 + j]? = some u) :
    ∀ j u, (ptCells m)[j]? = some u → W.cell? ((⟨g, k * 2, none⟩ : Addr).add j) = some u := fun j u hu => by
  have hadd : (⟨g, k * 2, none⟩ : Addr).add j = ⟨g, k * 2 + j, none⟩ := by unfold Addr.add; split <;> simp_all
  rw [hadd]; exact blk_cell h hl _ _ (hm j u hu)
theorem news_0 {W : World} {g c n : Nat} {l m : List P2} (h : PtBlk W g c l n) (hl : l.length = n) (hm : ∀ (j : Nat) u, (ptCells m)[j]? = some u → (ptCells l)[j]? = some u) :
    ∀ j u, (ptCells m)[j]? = some u → W.cell? ((⟨g, 0, none⟩ : Addr).add j) = some u := fun j u hu => by
  have hadd : (⟨g, 0, none⟩ : Addr).add j = ⟨g, j, none⟩ := by unfold Addr.add; split <;> simp_all
  rw [hadd]; exact blk_cell h hl _ _ (hm j u hu)
theorem blk_grown {W W' : World} {g c n : Nat} {l : List P2} {row : Option Nat} (h : PtBlk W g c l n) (hg : W.grownBy W' row) (hne : some g ≠ row) : PtBlk W' g c l n := by
  have hlt := h.lt
  obtain ⟨cur, h, hs⟩ := h
  exact ⟨cur, (hg.block g hlt hne).trans h, hs⟩
/-- Append, something being there behind it, as a step of a region that draws. -/
theorem step_append_more {P : Program} {w : World} {ops : Array Oper} {o : Oper} {a : Act} {K : Act → World → Prop} {Q : Exit → Act → World → Prop} {E : Prop} (hgd : o.guard = none) (s x : Operand) (t : TypeId)
    (ho : o.op = .call { callee := .builtin .append, args := #[s, x], argTypes := #[t, t] })
    (base : Nat) (e : TypeId) (i : TypeInfo) (z : Value) (size bytes : Nat) (ht : P.underlying t = some (.slice e)) (hi : P.info? e = some i) (hz : i.zero = some z)
    (hsize : i.size = size) (hby : i.bytes = bytes) (hzs : z.cells.size = size) (hsz : 0 < size)
    (v : Value) (n : Nat) (xs : List Value) (hs : a.eval s = v) (hown : w.ownsRow base e size v n xs)
    (ad : Addr) (m c : Nat) (news : List Value) (hx : a.eval x = .slice (some ad) m c) (hl : news.length = m * size) (hnews : ∀ j u, news[j]? = some u → w.cell? (ad.add j) = some u) (h1 : ∀ u ∈ news, u.oneCell' = true)
    (hm : 0 < n + m) (h63 : n + m ≤ maxLen) (hbytes : (n + m) * bytes ≤ 140737488355328) (hbase : base ≤ w.heap.size)
    (h : ∀ g cap w', w'.ownsRow base e size (.slice (some ⟨g, 0, none⟩) (n + m) cap) (n + m) (xs ++ news) → w.grownBy w' v.ownBlock → base ≤ g → K (a.put o.dst (.slice (some ⟨g, 0, none⟩) (n + m) cap)) w') :
    if Region.wanted o (yielded ops a.tmps) = true then Oper.wp P o a w K Q else E := by
  have hw : Region.wanted o (yielded ops a.tmps) = true := by simp [Region.wanted, hgd]
  rw [if_pos hw]
  obtain ⟨v', w', hr, h2, h3, _⟩ := run_append_own (P := P) w base t o.type e i z size bytes ht hi hz hsize hby hzs hsz v n xs hown ad m c news hl hnews h1 h63 hbytes hbase
  obtain ⟨g, cap, rfl, hb, _⟩ := h2.form hm
  unfold Oper.wp execOp
  simp only [ho, resolve, invoke, builtin, Sem.run_bind, Sem.run_pure, Result.andThen_ok, List.map_toArray, List.map_cons, List.map_nil, hs, hx, hr]
  exact h g cap w' h2 h3 hb
set_option maxRecDepth 100000 in
set_option maxHeartbeats 2000000 in
theorem luBackward_ok (g n c : Nat) (l : List P2) (w : World) (hb : PtBlk w g c l n) (hl : l.length = n) (hn1 : 1 ≤ n) (hn : n ≤ 100) :
    Calls Try.prog 13 #[.slice (some ⟨g, 0, none⟩) n c] w (AnsP w l.reverse) := by
  obtain ⟨i0, hi0, hz0, hz1, hz2⟩ := info_parts Try.infoPt
  have zg := hb.lt
  have hPt := hb.pts' hl
  obtain ⟨_, hPc⟩ := hPt
  rcases hPc with h0 | ⟨b, off, hbo, hbl, hcs⟩
  · omega
  cases hbo
  have HL : Hid (l.length = n) := hl
  clear hl
  go_enter Try.func13, Try.ntmps13
  go_wp2_with fail
  go_loopw [3, 4] (fun o i wr => ∃ k : Nat, k ≤ n ∧ i = .int .i64 ((n : Int) - 1 - k) ∧ wr.ownsRow w.heap.size 33 2 o k (ptCells (l.reverse.take k)) ∧ Below w.heap.size w wr) (fun _ i _ => (intOf i + 1).toNat)
  case atStart => exact ⟨0, Nat.zero_le _, by simp, World.ownsRow_made w #[] 0 (Nat.le_refl _) (by simp [maxLen]) rfl, (by repeat (first | exact bw_refl _ | assumption | apply bw_drewN | apply bw_drew | apply bw_alloc | refine bw_set ?_ (by simp) _))⟩
  case round =>
    obtain ⟨k, hk, rfl, hown, hnx⟩ := hrel
    by_cases hlt : k < n
    · obtain ⟨m, hm⟩ : ∃ m : Nat, n - 1 - k = m := ⟨_, rfl⟩
      have hmi : (n : Int) - 1 - k = (m : Int) := by omega
      have hmn : m < n := by omega
      rw [hmi]
      have d0 := (hnx.cell (p := ⟨g, 0 + m * 2, none⟩) hbl).trans (hcs m hmn).1
      have d1 := (hnx.cell (p := ⟨g, 0 + m * 2 + 1, none⟩) hbl).trans (hcs m hmn).2
      simp only [Nat.zero_add] at d0 d1
      have hsn : Hid (ptCells (l.reverse.take (k + 1)) = ptCells (l.reverse.take k) ++ [.int .i64 (ptAt l m).1, .int .i64 (ptAt l m).2]) := by
        change _ = _
        have e : l.reverse.take (k + 1) = l.reverse.take k ++ [ptAt l m] := by
          rw [List.take_add_one, List.getElem?_reverse (by rw [HL.out]; exact hlt), HL.out, hm]
          simp [ptAt, HL.out, hmn]
        rw [e, ptCells_snoc]
      have hzz := hnx.size
      have q1 : IntKind.i64.wrap ((m : Int) - 1) = (m : Int) - 1 := wrap_small (by omega) (by omega)
      go_wp2_with (at_builtin; refine wpList_append_lies _ rfl _ _ _ rfl w.heap.size 33 i0 _ 2 16 Try.underlying23 hi0 hz0 hz1 hz2 rfl (by omega) _ k _ rfl (hown.alloc _) ⟨wr.heap.size, 0, none⟩ 1 1 [.int .i64 (ptAt l m).1, .int .i64 (ptAt l m).2] rfl rfl (World.news_of_block (cs := #[.int .i64 (ptAt l m).1, .int .i64 (ptAt l m).2]) (t := 33) (fr := (0, 0)) (heap_alloc_new wr _)) (by simp [Value.oneCell']) (by omega) (by simp [maxLen]; omega) (by omega) (by simp; omega) (wr.heap.size + 1) (by simp) ?_; intro gg cap' w8 hown1 hgrow hat hlt1)
      go_roundw
      case rel => exact ⟨k + 1, by omega, by have e : (m : Int) - 1 = (n : Int) - 1 - ((k + 1 : Nat) : Int) := (by omega); rw [e], by rw [hsn.out]; exact hown1, (hnx.alloc hnx.size _).grown hgrow (by simp; omega) (fun j e => (hown.lt j e).1)⟩
      case measure => simp [intOf]
    · obtain rfl : k = n := by omega
      have hneg : ¬ (0 ≤ (k : Int) - 1 - k) := by omega
      have hneg2 : (k : Int) - 1 - k < 0 := by omega
      rw [List.take_of_length_le (by rw [List.length_reverse, HL.out]; exact Nat.le_refl _)] at hown
      obtain ⟨g2, c2, rfl, _, _⟩ := hown.form (by omega)
      obtain ⟨hb3, _, _, _⟩ := blk_of_own hown (by rw [List.length_reverse]; exact HL.out)
      go_wp2_with fail
      go_ret
      exact ⟨g2, c2, by rw [List.length_reverse, HL.out]; rfl, by rw [List.length_reverse, HL.out]; exact hb3, hnx⟩
theorem luPlace_f (p : P2) (h : ptB p.1 p.2 = true) (w : World) : Calls Try.prog 80 #[.agg #[.int .i64 p.1, .int .i64 p.2], .bool false] w fun e w' => e = .returned (.agg #[.int .i64 (mirP p).1, .int .i64 (mirP p).2]) ∧ Below w.heap.size w w' := by
  go_enter Try.func80, Try.ntmps80
  go_wp2_with fail
  refine (luMirror_ok p.1 p.2 _ h).mono ?_
  rintro e w1 ⟨rfl, J⟩
  obtain ⟨hc, hf⟩ := bcell J
  have z := J.size
  simp only [World.size_alloc] at z
  go_wp2_with fail
  exact bodyPost_ret (v := .agg #[.int .i64 (9 - p.1), .int .i64 p.2]) (by simp [results, Try.results80, go_sem, hc]) rfl ⟨rfl, bw_set (bw_set (bw_trans (by repeat (first | exact bw_refl _ | assumption | apply bw_drewN | apply bw_drew | apply bw_alloc | refine bw_set ?_ (by simp) _)) J) (by simp) _) (by simp) _⟩
theorem luPlace_t (p : P2) (w : World) : Calls Try.prog 80 #[.agg #[.int .i64 p.1, .int .i64 p.2], .bool true] w fun e w' => e = .returned (.agg #[.int .i64 (swpP p).1, .int .i64 (swpP p).2]) ∧ Below w.heap.size w w' := by
  go_enter Try.func80, Try.ntmps80
  go_wp2_with fail
  refine (luSwap_any p.1 p.2 _).mono ?_
  rintro e w1 ⟨rfl, J⟩
  obtain ⟨hc, hf⟩ := bcell J
  have z := J.size
  simp only [World.size_alloc] at z
  go_wp2_with fail
  exact bodyPost_ret (v := .agg #[.int .i64 p.2, .int .i64 p.1]) (by simp [results, Try.results80, go_sem, hc]) rfl ⟨rfl, bw_set (bw_set (bw_trans (by repeat (first | exact bw_refl _ | assumption | apply bw_drewN | apply bw_drew | apply bw_alloc | refine bw_set ?_ (by simp) _)) J) (by simp) _) (by simp) _⟩
set_option maxRecDepth 100000 in
set_option maxHeartbeats 2000000 in
theorem luOver_ok (f : P2 → P2) (sw : Bool) (g n c : Nat) (l : List P2) (w : World) (hf : ∀ i, i < n → ∀ w, Calls Try.prog 80 #[.agg #[.int .i64 (ptAt l i).1, .int .i64 (ptAt l i).2], .bool sw] w fun e w' => e = .returned (.agg #[.int .i64 (f (ptAt l i)).1, .int .i64 (f (ptAt l i)).2]) ∧ Below w.heap.size w w')
    (hb : PtBlk w g c l n) (hl : l.length = n) (hn1 : 1 ≤ n) (hn : n ≤ 100) :
    Calls Try.prog 46 #[.slice (some ⟨g, 0, none⟩) n c, .bool sw] w (AnsP w (l.map f)) := by
  obtain ⟨i0, hi0, hz0, hz1, hz2⟩ := info_parts Try.infoPt
  have zg := hb.lt
  obtain ⟨_, hPc⟩ := hb.pts' hl
  rcases hPc with h0 | ⟨b, off, hbo, hbl, hcs⟩
  · omega
  cases hbo
  have HL : Hid (l.length = n) := hl
  have HF : Hid (∀ i, i < n → ∀ w, Calls Try.prog 80 #[.agg #[.int .i64 (ptAt l i).1, .int .i64 (ptAt l i).2], .bool sw] w fun e w' => e = .returned (.agg #[.int .i64 (f (ptAt l i)).1, .int .i64 (f (ptAt l i)).2]) ∧ Below w.heap.size w w') := hf
  clear hl hf
  go_enter Try.func46, Try.ntmps46
  go_wp2_with fail
  go_loopw [5, 6] (fun o i wr => ∃ k : Nat, k ≤ n ∧ i = .int .i64 k ∧ wr.ownsRow w.heap.size 33 2 o k (ptCells ((l.map f).take k)) ∧ Below w.heap.size w wr) (fun _ i _ => n - (intOf i).toNat)
  case atStart => exact ⟨0, Nat.zero_le _, by simp, World.ownsRow_made w #[] 0 (Nat.le_refl _) (by simp [maxLen]) rfl, (by repeat (first | exact bw_refl _ | assumption | apply bw_drewN | apply bw_drew | apply bw_alloc | refine bw_set ?_ (by simp) _))⟩
  case round =>
    obtain ⟨k, hk, rfl, hown, hnx⟩ := hrel
    by_cases hlt : k < n
    · have d0 := (hnx.cell (p := ⟨g, 0 + k * 2, none⟩) hbl).trans (hcs k hlt).1
      have d1 := (hnx.cell (p := ⟨g, 0 + k * 2 + 1, none⟩) hbl).trans (hcs k hlt).2
      simp only [Nat.zero_add] at d0 d1
      have hsn : Hid (ptCells ((l.map f).take (k + 1)) = ptCells ((l.map f).take k) ++ [.int .i64 (f (ptAt l k)).1, .int .i64 (f (ptAt l k)).2]) := by
        change _ = _
        have e : (l.map f).take (k + 1) = (l.map f).take k ++ [f (ptAt l k)] := by
          rw [List.take_add_one]
          simp [ptAt, HL.out, hlt]
        rw [e, ptCells_snoc]
      have hzz := hnx.size
      have hcall := HF.out k hlt wr
      go_wp2_with (first | (go_at_call 80; refine hcall.mono ?_; rintro e w7 ⟨rfl, J⟩; have hown7 := hown.kept (w' := w7) (row := none) ⟨J.os, J.tape, J.output, J.size, fun j hj _ => J.block j hj⟩ (Classical.em _); have hn7 := bw_trans hnx J; have hz7 := hn7.size) | (at_builtin; refine wpList_append_lies _ rfl _ _ _ rfl w.heap.size 33 i0 _ 2 16 Try.underlying23 hi0 hz0 hz1 hz2 rfl (by omega) _ k _ rfl (hown7.alloc _) ⟨w7.heap.size, 0, none⟩ 1 1 [.int .i64 (f (ptAt l k)).1, .int .i64 (f (ptAt l k)).2] rfl rfl (World.news_of_block (cs := #[.int .i64 (f (ptAt l k)).1, .int .i64 (f (ptAt l k)).2]) (t := 33) (fr := (0, 0)) (heap_alloc_new w7 _)) (by simp [Value.oneCell']) (by omega) (by simp [maxLen]; omega) (by omega) (by simp; omega) (w7.heap.size + 1) (by simp) ?_; intro gg cap' w8 hown1 hgrow hat hlt1))
      go_roundw
      case rel => exact ⟨k + 1, by omega, by simp, by rw [hsn.out]; exact hown1, (hn7.alloc hn7.size _).grown hgrow (by simp; omega) (fun j e => (hown7.lt j e).1)⟩
      case measure => simp [intOf]; omega
    · obtain rfl : k = n := by omega
      rw [List.take_of_length_le (by rw [List.length_map, HL.out]; exact Nat.le_refl _)] at hown
      obtain ⟨g2, c2, rfl, _, _⟩ := hown.form (by omega)
      obtain ⟨hb3, _, _, _⟩ := blk_of_own hown (by rw [List.length_map]; exact HL.out)
      go_wp2_with fail
      go_ret
      exact ⟨g2, c2, by rw [List.length_map, HL.out]; rfl, by rw [List.length_map, HL.out]; exact hb3, hnx⟩
end Go.Proofs.Ythedlopfjlnogaa
namespace Go.Proofs.Ythedlopfjlnogaa
open Go.RowKit Go.Sort

set_option maxRecDepth 100000 in
set_option maxHeartbeats 1000000 in
theorem plateOk_any (a ah : Option Addr) (la ca nh ch : Nat) (o : List P2) (hs : List (List P2)) (w : World) (h : Plt w a la ah nh o hs) :
    Calls Try.prog 11 #[.agg #[.slice a la ca, .slice ah nh ch]] w fun e W' => e = .returned (.bool (plV o hs)) ∧ Below w.heap.size w W' := by
  have B0 : Below w.heap.size w (w.alloc (.cells #[.slice a la ca, .slice ah nh ch] 26)) := (by repeat (first | exact bw_refl _ | assumption | apply bw_drewN | apply bw_drew | apply bw_alloc | refine bw_set ?_ (by simp) _))
  go_enter Try.func11, Try.ntmps11
  go_wp2_with fail
  refine (board_any a ah la ca nh ch o hs _ (h.below B0)).mono ?_
  rintro e w1 ⟨p, rfl, J, _⟩
  go_wp2_with fail
  go_ret
  exact ⟨rfl, bw_trans B0 J⟩
set_option maxRecDepth 100000 in
set_option maxHeartbeats 4000000 in
theorem boardIn_any (b : Nat) (o : RingT) (hs : List RingT) (p : P2) (w : World) (hR : RingL w.heap.size w (some ⟨b, 0, none⟩) (o :: hs)) (hok : ((o :: hs).all fun x => okV x.pts) = true) (hp : ptB p.1 p.2 = true) :
    Calls Try.prog 51 #[.pointer (some ⟨b, 0, none⟩), .agg #[.int .i64 p.1, .int .i64 p.2]] w fun e W' => e = .returned (.int .i64 (plI o.pts (hs.map RingT.pts) p)) ∧ Below w.heap.size w W' := by
  obtain ⟨b0, q0, t0, e0, ob, ol, oP, hR⟩ := hR
  cases e0
  rw [List.all_cons, Bool.and_eq_true] at hok
  have B0 : Below w.heap.size w (w.alloc (.cells #[.int .i64 p.1, .int .i64 p.2] 33)) := (by repeat (first | exact bw_refl _ | assumption | apply bw_drewN | apply bw_drew | apply bw_alloc | refine bw_set ?_ (by simp) _))
  obtain ⟨W, hW, BW, T⟩ : ∃ W, W = w.alloc (.cells #[.int .i64 p.1, .int .i64 p.2] 33) ∧ Below w.heap.size w W ∧ W.heap[w.heap.size]? = some (.cells #[.int .i64 p.1, .int .i64 p.2] 33) := ⟨_, rfl, (by repeat (first | exact bw_refl _ | assumption | apply bw_drewN | apply bw_drew | apply bw_alloc | refine bw_set ?_ (by simp) _)), heap_new _ _⟩
  have hpl : Hid (plI o.pts (hs.map RingT.pts) p = hs.foldl (fun s x => min s (-(inI x.pts p))) (inI o.pts p)) := by change _ = _; unfold plI; rw [List.foldl_map]
  have hall : Hid (∀ x ∈ hs, okV x.pts = true) := List.all_eq_true.1 hok.2
  have HW : Hid (∀ d os, Calls Try.prog 49 #[.slice o.a o.len o.cap, .agg #[.int .i64 p.1, .int .i64 p.2]] (grow (redrawn W d) os) fun e W' => e = .returned (.int .i64 (inI o.pts p)) ∧ Below (grow (redrawn W d) os).heap.size (grow (redrawn W d) os) W') := fun d os =>
    where_any o.a o.len o.cap o.pts p ol hok.1 hp _ ((oP.below (bw_trans BW (below_regrown W d os))).grow (bw_trans BW (below_regrown W d os)).size)
  obtain ⟨o0, o1, _, _⟩ := lies2 (ob.below BW)
  have o0' := cell_regrown o0
  obtain ⟨t0', t1'⟩ := reg_2 T
  have h3 := inI_3 o.pts p
  have hR1 := (hR.below BW (Nat.le_refl _)).grow BW.size
  have ob1 := ob.below BW
  clear o0 o1 hok
  generalize inI o.pts p = u0 at *
  go_enter Try.func51, Try.ntmps51
  go_upto_region 1 with fail
  rw [← hW]
  clear hW
  refine wp_region_quiet_below (by kernel_rfl) (by kernel_rfl) ?_
  repeat (first | go_big_quiet_step (first | (go_at_call 49; with_reducible exact Calls.regrown_of (HW.out _ _))))
  refine wpQuiet_nil ?_
  intro _ hw'
  obtain ⟨⟨dq, osq⟩, hw''⟩ := hw'
  subst hw''
  have J := below_regrown W dq osq
  generalize grow (redrawn W dq) osq = v at J ⊢
  obtain ⟨o0, o1, _, _⟩ := lies2 (ob1.below J)
  have K := bw_trans BW J
  replace T := keep J T
  have hR2 := (hR1.below J (Nat.le_refl _)).grow J.size
  clear HW t0' t1' o0' hR1 hR
  go_wp2_with fail
  go_loopw [5, 6] (fun s q wr => ∃ (u : Int) (q' : Option Addr) (rest : List RingT), s = .int .i64 u ∧ q = .pointer q' ∧ (-1 ≤ u ∧ u ≤ 1) ∧ RingL wr.heap.size wr q' rest ∧ (∀ x ∈ rest, okV x.pts = true) ∧ hs.foldl (fun s x => min s (-(inI x.pts p))) u0 = rest.foldl (fun s x => min s (-(inI x.pts p))) u ∧ Below v.heap.size v wr) (fun _ q wr => ringsLeft wr q)
  case atStart => exact ⟨u0, q0, hs, rfl, rfl, by omega, hR2, hall.out, rfl, bw_refl _⟩
  case round =>
    obtain ⟨u, q', rest, rfl, rfl, hu, hL, hak, he, hnx⟩ := hrel
    cases rest with
    | nil =>
      obtain rfl : q' = none := hL
      have e1 : Hid (plI o.pts (hs.map RingT.pts) p = u) := by change _ = _; rw [hpl.out, he]; rfl
      clear he
      go_wp2_with fail
      go_ret
      exact ⟨ret_int e1.out.symm, bw_trans K hnx⟩
    | cons y ys =>
      have hL' := hL
      obtain ⟨b1, q1, t1, rfl, hb, hlen, hP, hr⟩ := hL
      obtain ⟨d0, d1, _, _⟩ := lies2 hb
      have d0' := cell_regrown d0
      have d1' := cell_regrown d1
      obtain ⟨t0', t1'⟩ := reg_2 (keep hnx T)
      have y3 := inI_3 y.pts p
      have HW : Hid (∀ d os, Calls Try.prog 49 #[.slice y.a y.len y.cap, .agg #[.int .i64 p.1, .int .i64 p.2]] (grow (redrawn wr d) os) fun e W' => e = .returned (.int .i64 (inI y.pts p)) ∧ Below (grow (redrawn wr d) os).heap.size (grow (redrawn wr d) os) W') := fun d os =>
        where_any y.a y.len y.cap y.pts p hlen (hak y (by simp)) hp _ ((hP.below (below_regrown wr d os)).grow (below_regrown wr d os).size)
      have he1 : Hid (hs.foldl (fun s x => min s (-(inI x.pts p))) u0 = ys.foldl (fun s x => min s (-(inI x.pts p))) (min u (-(inI y.pts p)))) := he
      clear he
      generalize inI y.pts p = u1 at *
      have nu : IntKind.i64.wrap (-u1) = -u1 := wrap_small (by omega) (by omega)
      clear d0 d1
      by_cases hm : -u1 < u
      · have hmin : min u (-u1) = -u1 := by omega
        go_wp2_with fail
        refine wp_region_quiet_below (by kernel_rfl) (by kernel_rfl) ?_
        repeat (first | go_big_quiet_step (first | (go_at_call 49; with_reducible exact Calls.regrown_of (HW.out _ _))))
        refine wpQuiet_nil ?_
        intro _ hw'
        obtain ⟨⟨dq, osq⟩, hw''⟩ := hw'
        subst hw''
        have J := below_regrown wr dq osq
        generalize grow (redrawn wr dq) osq = v2 at J ⊢
        obtain ⟨d0, d1, _, _⟩ := lies2 (hb.below J)
        go_wp2_with fail
        go_roundw
        case rel => exact ⟨-u1, q1, ys, rfl, rfl, by omega, (hr.below J (Nat.le_refl _)).grow J.size, fun x hx => hak x (by simp [hx]), by rw [he1.out, hmin], bw_trans hnx J⟩
        case measure => rw [ringsLeft_eq (hr.below J (Nat.le_refl _)), ringsLeft_eq hL']; simp
      · have hmin : min u (-u1) = u := by omega
        go_wp2_with fail
        refine wp_region_quiet_below (by kernel_rfl) (by kernel_rfl) ?_
        repeat (first | go_big_quiet_step (first | (go_at_call 49; with_reducible exact Calls.regrown_of (HW.out _ _))))
        refine wpQuiet_nil ?_
        intro _ hw'
        obtain ⟨⟨dq, osq⟩, hw''⟩ := hw'
        subst hw''
        have J := below_regrown wr dq osq
        generalize grow (redrawn wr dq) osq = v2 at J ⊢
        obtain ⟨d0, d1, _, _⟩ := lies2 (hb.below J)
        go_wp2_with fail
        go_roundw
        case rel => exact ⟨u, q1, ys, rfl, rfl, by omega, (hr.below J (Nat.le_refl _)).grow J.size, fun x hx => hak x (by simp [hx]), by rw [he1.out, hmin], bw_trans hnx J⟩
        case measure => rw [ringsLeft_eq (hr.below J (Nat.le_refl _)), ringsLeft_eq hL']; simp
set_option maxRecDepth 100000 in
set_option maxHeartbeats 1000000 in
theorem plateIn_any (a ah : Option Addr) (la ca nh ch : Nat) (o : List P2) (hs : List (List P2)) (p : P2) (w : World) (h : Plt w a la ah nh o hs) :
    Calls Try.prog 17 #[.agg #[.slice a la ca, .slice ah nh ch], .agg #[.int .i64 p.1, .int .i64 p.2]] w fun e W' => e = .returned (.int .i64 (plInV o hs p)) ∧ Below w.heap.size w W' := by
  obtain ⟨W, hW, BW, TP, T⟩ := boxes2 w (.cells #[.slice a la ca, .slice ah nh ch] 26) (.cells #[.int .i64 p.1, .int .i64 p.2] 33)
  have hh := h.below BW
  obtain ⟨t0, t1⟩ := blk_2 TP
  have zP := blk_lt TP
  cases hv : plV o hs
  · have e1 : Hid (plInV o hs p = -1) := by change _ = _; unfold plInV; rw [hv]; rfl
    go_enter Try.func17, Try.ntmps17
    go_upto_region 1 with fail
    rw [← hW]
    clear hW
    go_wp2_with fail
    refine (board_any a ah la ca nh ch o hs _ hh).mono ?_
    rw [hv]
    rintro e w1 ⟨q, rfl, J, _⟩
    go_wp2_with fail
    go_ret
    exact ⟨ret_int e1.out.symm, bw_trans BW J⟩
  cases hp : ptB p.1 p.2
  · have e1 : Hid (plInV o hs p = -1) := by change _ = _; unfold plInV; rw [hv, hp]; rfl
    go_enter Try.func17, Try.ntmps17
    go_upto_region 1 with fail
    rw [← hW]
    clear hW
    go_wp2_with fail
    refine (board_any a ah la ca nh ch o hs _ hh).mono ?_
    rw [hv]
    rintro e w1 ⟨q, rfl, J, _⟩
    replace T := keep J T
    clear t0 t1
    obtain ⟨t0, t1⟩ := blk_2 T
    go_wp2_with fail
    refine (pt_raw p _).mono ?_
    rw [hp]
    rintro e w2 ⟨rfl, J2⟩
    go_wp2_with fail
    go_ret
    exact ⟨ret_int e1.out.symm, bw_trans (bw_trans BW J) J2⟩
  · have e1 : Hid (plInV o hs p = plI o hs p) := by change _ = _; unfold plInV; rw [hv, hp]; rfl
    have L := (plV_iff o hs).1 hv
    go_enter Try.func17, Try.ntmps17
    go_upto_region 1 with fail
    rw [← hW]
    clear hW
    go_wp2_with fail
    refine (board_any a ah la ca nh ch o hs _ hh).mono ?_
    rintro e w1 ⟨q, rfl, J, hR⟩
    obtain ⟨b, xs, rfl, hR, hx⟩ := hR hv
    rw [hv]
    replace T := keep J T
    clear t0 t1
    obtain ⟨t0, t1⟩ := blk_2 T
    go_wp2_with fail
    refine (pt_raw p _).mono ?_
    rw [hp]
    rintro e w2 ⟨rfl, J2⟩
    replace T := keep J2 T
    clear t0 t1
    obtain ⟨t0, t1⟩ := blk_2 T
    have hall : ((⟨a, la, ca, o⟩ :: xs : List RingT).all fun x => okV x.pts) = true := by
      rw [List.all_eq_true]
      intro x hx'
      rcases List.mem_cons.1 hx' with e | e
      · subst e; exact L.out
      · exact L.ok _ (by rw [← hx]; exact List.mem_map.2 ⟨x, e, rfl⟩)
    go_wp2_with fail
    refine (boardIn_any b ⟨a, la, ca, o⟩ xs p w2 ((hR.below J2 (Nat.le_refl _)).grow J2.size) hall hp).mono ?_
    rw [hx]
    rintro e w3 ⟨rfl, J3⟩
    go_wp2_with fail
    go_ret
    exact ⟨ret_int e1.out.symm, bw_trans (bw_trans (bw_trans BW J) J2) J3⟩
end Go.Proofs.Ythedlopfjlnogaa
namespace Go.Proofs.Ythedlopfjlnogaa
open Go.RowKit Go.Sort

theorem foldl_take_succ {α β : Type} (f : β → α → β) (l : List α) (d : α) (s : β) (k : Nat) (hk : k < l.length) : (l.take (k + 1)).foldl f s = f ((l.take k).foldl f s) (l[k]?.getD d) := by
  rw [List.take_add_one, List.foldl_append]; simp [hk]
theorem plI_bd (o : List P2) (hs : List (List P2)) (p : P2) : -1 ≤ plI o hs p ∧ plI o hs p ≤ 1 := by
  unfold plI
  have : ∀ (hs : List (List P2)) (s : Int), -1 ≤ s ∧ s ≤ 1 → -1 ≤ hs.foldl (fun s h => min s (-(inI h p))) s ∧ hs.foldl (fun s h => min s (-(inI h p))) s ≤ 1 := by
    intro hs
    induction hs with
    | nil => intro s h; exact h
    | cons x xs ih => intro s h; exact ih _ (by dsimp only; have := inI_3 x p; omega)
  exact this hs _ (by have := inI_3 o p; omega)
set_option maxRecDepth 100000 in
set_option maxHeartbeats 4000000 in
theorem sPlI_ok (a ah : Option Addr) (la ca nh ch : Nat) (o : List P2) (hs : List (List P2)) (p : P2) (hv : plV o hs = true) (hp : ptB p.1 p.2 = true) (w : World) (h : Plt w a la ah nh o hs) :
    Calls Try.prog 52 #[.agg #[.slice a la ca, .slice ah nh ch], .agg #[.int .i64 p.1, .int .i64 p.2]] w fun e W' => e = .returned (.int .i64 (plI o hs p)) ∧ Below w.heap.size w W' := by
  obtain ⟨W, hW, BW, TP, T⟩ := boxes2 w (.cells #[.slice a la ca, .slice ah nh ch] 26) (.cells #[.int .i64 p.1, .int .i64 p.2] 33)
  have hPV := (plV_iff o hs).1 hv
  obtain ⟨hla, hP, hlen, A, L, C, hS, hH⟩ := h.below BW
  have HO := sInI_pts a la ca o p hPV.out hp W hP
  have HOK : Hid (∀ j, j < nh → okV (hs[j]?.getD []) = true) := fun j hj => hPV.ok _ (by rw [List.getElem?_eq_getElem (by omega), Option.getD_some]; exact List.getElem_mem _)
  have HL : Hid (hs.length = nh) := hlen
  have H0 : Hid (plI o (hs.take 0) p = inI o p) := rfl
  have HN : Hid (plI o (hs.take nh) p = plI o hs p) := by change _ = _; rw [← hlen, List.take_length]
  have HS : Hid (∀ k, k < nh → plI o (hs.take (k + 1)) p = min (plI o (hs.take k) p) (-(inI (hs[k]?.getD []) p))) := fun k hk => by
    unfold plI; exact foldl_take_succ _ hs [] _ k (by omega)
  have hnh : nh ≤ 2 := by have := hPV.len; omega
  clear hlen hPV hv h
  obtain ⟨t0, t1⟩ := blk_2 TP
  obtain ⟨u0, u1⟩ := blk_2 T
  have zP := blk_lt TP
  go_enter Try.func52, Try.ntmps52
  go_upto_region 1 with fail
  rw [← hW]
  clear hW
  go_wp2_with (go_at_call 44; refine HO.mono ?_; rintro e v ⟨rfl, J⟩)
  have K := bw_trans BW J
  replace TP := keep J TP
  replace T := keep J T
  replace hS := (hS.below J).grow J.size
  replace hH : ∀ j, j < nh → L j ≤ 1048576 ∧ Pts v.heap.size v (A j) (L j) (hs[j]?.getD []) := fun j hj => ⟨(hH j hj).1, ((hH j hj).2.below J).grow J.size⟩
  clear HO t0 t1 u0 u1 J zP
  go_loopw [5, 6] (fun s i wr => ∃ k : Nat, k ≤ nh ∧ i = .int .i64 k ∧ s = .int .i64 (plI o (hs.take k) p) ∧ Below v.heap.size v wr) (fun _ i _ => nh - (intOf i).toNat)
  case atStart => exact ⟨0, Nat.zero_le _, rfl, by rw [H0.out], bw_refl _⟩
  case round =>
    obtain ⟨k, hk, rfl, rfl, hnx⟩ := hrel
    have hbd := plI_bd o (hs.take k) p
    obtain ⟨t0, t1⟩ := blk_2 (keep hnx TP)
    have zT := blk_lt (keep hnx TP)
    by_cases hlt : k < nh
    case neg =>
      obtain rfl : k = nh := by omega
      rw [HN.out]
      go_wp2_with fail
      go_ret
      exact ⟨rfl, bw_trans K hnx⟩
    case pos =>
      rcases hS.below hnx with h0 | ⟨b, off, rfl, hbl, hcs⟩
      · omega
      have c0 := cell_regrown (hcs k hlt)
      clear hcs
      have i0 : (0 : Int) ≤ (k : Int) := Int.natCast_nonneg _
      have i1 : (k : Int) < (nh : Int) := by omega
      obtain ⟨hLk, hPk⟩ := hH k hlt
      have hokk := HOK.out k hlt
      have hst := HS.out k hlt
      have hPkw := (hPk.below hnx).grow hnx.size
      have y3 := inI_3 (hs[k]?.getD []) p
      have HW : Hid (∀ d os, Calls Try.prog 44 #[.slice (A k) (L k) (C k), .agg #[.int .i64 p.1, .int .i64 p.2]] (grow (redrawn wr d) os) fun e W' => e = .returned (.int .i64 (inI (hs[k]?.getD []) p)) ∧ Below (grow (redrawn wr d) os).heap.size (grow (redrawn wr d) os) W') := fun d os =>
        sInI_pts (A k) (L k) (C k) _ p hokk hp _ ((hPkw.below (below_regrown wr d os)).grow (below_regrown wr d os).size)
      obtain ⟨t0r, t1r⟩ := reg_2 (keep hnx TP)
      obtain ⟨u0r, u1r⟩ := reg_2 (keep hnx T)
      have hst' : Hid (plI o (hs.take (k + 1)) p = min (plI o (hs.take k) p) (-(inI (hs[k]?.getD []) p))) := hst
      clear hst hokk hPk hPkw
      generalize inI (hs[k]?.getD []) p = u1 at *
      generalize plI o (hs.take k) p = u at *
      have nu : IntKind.i64.wrap (-u1) = -u1 := wrap_small (by omega) (by omega)
      by_cases hm : -u1 < u
      · have hmin : min u (-u1) = -u1 := by omega
        go_wp2_with fail
        refine wp_region_quiet_below (by kernel_rfl) (by kernel_rfl) ?_
        repeat (first | go_big_quiet_step (first | (go_at_call 44; with_reducible exact Calls.regrown_of (HW.out _ _))))
        refine wpQuiet_nil ?_
        intro _ hw'
        obtain ⟨⟨dq, osq⟩, hw''⟩ := hw'
        subst hw''
        have J := below_regrown wr dq osq
        generalize grow (redrawn wr dq) osq = v2 at J ⊢
        go_wp2_with fail
        go_roundw
        case rel => exact ⟨k + 1, by omega, by simp, by rw [hst'.out, hmin], bw_trans hnx J⟩
        case measure => simp [intOf]; omega
      · have hmin : min u (-u1) = u := by omega
        go_wp2_with fail
        refine wp_region_quiet_below (by kernel_rfl) (by kernel_rfl) ?_
        repeat (first | go_big_quiet_step (first | (go_at_call 44; with_reducible exact Calls.regrown_of (HW.out _ _))))
        refine wpQuiet_nil ?_
        intro _ hw'
        obtain ⟨⟨dq, osq⟩, hw''⟩ := hw'
        subst hw''
        have J := below_regrown wr dq osq
        generalize grow (redrawn wr dq) osq = v2 at J ⊢
        go_wp2_with fail
        go_roundw
        case rel => exact ⟨k + 1, by omega, by simp, by rw [hst'.out, hmin], bw_trans hnx J⟩
        case measure => simp [intOf]; omega
set_option maxRecDepth 100000 in
set_option maxHeartbeats 1000000 in
theorem sPlateIn_any (a ah : Option Addr) (la ca nh ch : Nat) (o : List P2) (hs : List (List P2)) (p : P2) (w : World) (h : Plt w a la ah nh o hs) :
    Calls Try.prog 18 #[.agg #[.slice a la ca, .slice ah nh ch], .agg #[.int .i64 p.1, .int .i64 p.2]] w fun e W' => e = .returned (.int .i64 (plInV o hs p)) ∧ Below w.heap.size w W' := by
  obtain ⟨W, hW, BW, TP, T⟩ := boxes2 w (.cells #[.slice a la ca, .slice ah nh ch] 26) (.cells #[.int .i64 p.1, .int .i64 p.2] 33)
  have hh := h.below BW
  obtain ⟨t0, t1⟩ := blk_2 TP
  have zP := blk_lt TP
  have hcall := sPlateOk_any a ah la ca nh ch o hs W hh
  cases hv : plV o hs
  · rw [hv] at hcall
    have e1 : Hid (plInV o hs p = -1) := by change _ = _; unfold plInV; rw [hv]; rfl
    go_enter Try.func18, Try.ntmps18
    go_upto_region 1 with fail
    rw [← hW]
    clear hW
    go_wp2_with (go_at_call 12; refine hcall.mono ?_; rintro e w1 ⟨rfl, J⟩)
    go_ret
    exact ⟨ret_int e1.out.symm, bw_trans BW J⟩
  rw [hv] at hcall
  cases hp : ptB p.1 p.2
  · have e1 : Hid (plInV o hs p = -1) := by change _ = _; unfold plInV; rw [hv, hp]; rfl
    go_enter Try.func18, Try.ntmps18
    go_upto_region 1 with fail
    rw [← hW]
    clear hW
    go_wp2_with (go_at_call 12; refine hcall.mono ?_; rintro e w1 ⟨rfl, J⟩; obtain ⟨s0, s1⟩ := blk_2 (keep J T))
    refine (sPt_raw p _).mono ?_
    rw [hp]
    rintro e w2 ⟨rfl, J2⟩
    go_wp2_with fail
    go_ret
    exact ⟨ret_int e1.out.symm, bw_trans (bw_trans BW J) J2⟩
  · have e1 : Hid (plInV o hs p = plI o hs p) := by change _ = _; unfold plInV; rw [hv, hp]; rfl
    go_enter Try.func18, Try.ntmps18
    go_upto_region 1 with fail
    rw [← hW]
    clear hW
    go_wp2_with (go_at_call 12; refine hcall.mono ?_; rintro e w1 ⟨rfl, J⟩; obtain ⟨s0, s1⟩ := blk_2 (keep J T))
    refine (sPt_raw p _).mono ?_
    rw [hp]
    rintro e w2 ⟨rfl, J2⟩
    have J3 := bw_trans J J2
    clear s0 s1 t0 t1
    obtain ⟨s0, s1⟩ := blk_2 (keep J3 T)
    obtain ⟨t0, t1⟩ := blk_2 (keep J3 TP)
    go_wp2_with fail
    refine (sPlI_ok a ah la ca nh ch o hs p hv hp w2 (hh.below J3)).mono ?_
    rintro e w3 ⟨rfl, J4⟩
    go_wp2_with fail
    go_ret
    exact ⟨ret_int e1.out.symm, bw_trans (bw_trans BW J3) J4⟩
end Go.Proofs.Ythedlopfjlnogaa
namespace Go.Proofs.Ythedlopfjlnogaa

/-- As many times as large. -/
def sc (K : Int) (p : P2) : P2 := (K * p.1, K * p.2)
theorem crs_sc (K : Int) (a b c : P2) : crs (sc K a).1 (sc K a).2 (sc K b).1 (sc K b).2 (sc K c).1 (sc K c).2 = K * K * crs a.1 a.2 b.1 b.2 c.1 c.2 := by unfold crs sc; grind
theorem dt_sc (K : Int) (a b c : P2) : dt (sc K a).1 (sc K a).2 (sc K b).1 (sc K b).2 (sc K c).1 (sc K c).2 = K * K * dt a.1 a.2 b.1 b.2 c.1 c.2 := by unfold dt sc; grind
theorem pos_sc {K : Int} (hK : 0 < K) (x : Int) : (0 < K * x ↔ 0 < x) ∧ (K * x < 0 ↔ x < 0) ∧ (K * x = 0 ↔ x = 0) := by
  rcases Int.lt_trichotomy x 0 with h | h | h
  · have := Int.mul_neg_of_pos_of_neg hK h; omega
  · subst h; simp
  · have := Int.mul_pos hK h; omega
theorem le_sc {K : Int} (hK : 0 < K) (x y : Int) : K * x ≤ K * y ↔ x ≤ y := ⟨fun h => Int.le_of_mul_le_mul_left h hK, fun h => Int.mul_le_mul_of_nonneg_left h (by omega)⟩
theorem hasP_sc {K : Int} (hK : 0 < K) (a b p : P2) : hasP (sc K a) (sc K b) (sc K p) = hasP a b p := by
  unfold hasP
  rw [Bool.eq_iff_iff, hasC_iff, hasC_iff, crs_sc, dt_sc]
  have h2 := Int.mul_pos hK hK
  have p1 := pos_sc h2 (crs a.1 a.2 b.1 b.2 p.1 p.2)
  have p2 := pos_sc h2 (dt p.1 p.2 a.1 a.2 b.1 b.2)
  omega
theorem splB_sc {K : Int} (hK : 0 < K) (a b c d : P2) : splB (sc K a).1 (sc K a).2 (sc K b).1 (sc K b).2 (sc K c).1 (sc K c).2 (sc K d).1 (sc K d).2 = splB a.1 a.2 b.1 b.2 c.1 c.2 d.1 d.2 := by
  rw [Bool.eq_iff_iff, spl_iff, spl_iff, crs_sc, crs_sc]
  have h2 := Int.mul_pos hK hK
  have p1 := pos_sc h2 (crs a.1 a.2 b.1 b.2 c.1 c.2)
  have p2 := pos_sc h2 (crs a.1 a.2 b.1 b.2 d.1 d.2)
  omega
theorem meetP_sc {K : Int} (hK : 0 < K) (a b c d : P2) : meetP (sc K a) (sc K b) (sc K c) (sc K d) = meetP a b c d := by
  unfold meetP
  rw [meet_alt0, meet_alt0, splB_sc hK, splB_sc hK]
  have h1 := hasP_sc hK a b c
  have h2 := hasP_sc hK a b d
  have h3 := hasP_sc hK c d a
  have h4 := hasP_sc hK c d b
  unfold hasP at h1 h2 h3 h4
  rw [h1, h2, h3, h4]
theorem passP_sc {K : Int} (hK : 0 < K) (a b p : P2) : passP (sc K a) (sc K b) (sc K p) = passP a b p := by
  have l1 := le_sc hK
  have e1 : ∀ a b : P2, (decide ((sc K a).2 ≤ (sc K p).2) && decide ((sc K p).2 < (sc K b).2) && decide (0 < crs (sc K a).1 (sc K a).2 (sc K b).1 (sc K b).2 (sc K p).1 (sc K p).2)) = (decide (a.2 ≤ p.2) && decide (p.2 < b.2) && decide (0 < crs a.1 a.2 b.1 b.2 p.1 p.2)) := by
    intro a b
    rw [crs_sc]
    have p1 := pos_sc (Int.mul_pos hK hK) (crs a.1 a.2 b.1 b.2 p.1 p.2)
    have i1 : ((sc K a).2 ≤ (sc K p).2) ↔ a.2 ≤ p.2 := l1 _ _
    have i2 : ((sc K p).2 < (sc K b).2) ↔ p.2 < b.2 := by have := l1 b.2 p.2; unfold sc; dsimp only; omega
    simp only [i1, i2, p1.1]
  have i3 : ((sc K a).2 > (sc K b).2) ↔ a.2 > b.2 := by have := l1 a.2 b.2; unfold sc; dsimp only; omega
  unfold passP
  simp only [i3]
  split
  · exact e1 b a
  · exact e1 a b
theorem sc_ne {K : Int} (hK : 0 < K) {a b : P2} (h : a ≠ b) : sc K a ≠ sc K b := by
  intro e
  apply h
  have e1 : K * a.1 = K * b.1 := congrArg Prod.fst e
  have e2 : K * a.2 = K * b.2 := congrArg Prod.snd e
  exact Prod.ext (Int.eq_of_mul_eq_mul_left (by omega) e1) (Int.eq_of_mul_eq_mul_left (by omega) e2)
theorem apL_sc {K : Int} (hK : 0 < K) {a b : List P2} (h : apL a b = true) : apL (a.map (sc K)) (b.map (sc K)) = true := by
  rw [apL_iff] at h ⊢
  simp only [List.length_map, map_nxt]
  intro i hi k hk
  rw [map_at hi, map_at hk, map_at (nxt_lt (by omega)), map_at (nxt_lt (by omega)), meetP_sc hK]; exact h i hi k hk
theorem edgy_sc {K : Int} (hK : 0 < K) {a : List P2} (h : Edgy a) : Edgy (a.map (sc K)) := by
  intro i hi
  rw [List.length_map] at hi
  rw [map_nxt, map_at hi, map_at (nxt_lt (by omega))]
  exact sc_ne hK (h i hi)
theorem onL_sc {K : Int} (hK : 0 < K) (l : List P2) (p : P2) : onL (l.map (sc K)) (sc K p) = onL l p := by
  rw [Bool.eq_iff_iff, onL_iff, onL_iff, List.length_map]
  constructor
  · rintro ⟨i, hi, h⟩
    rw [map_nxt, map_at hi, map_at (nxt_lt (by omega)), hasP_sc hK] at h
    exact ⟨i, hi, h⟩
  · rintro ⟨i, hi, h⟩
    refine ⟨i, hi, ?_⟩
    rw [map_nxt, map_at hi, map_at (nxt_lt (by omega)), hasP_sc hK]
    exact h
theorem inI_sc {K : Int} (hK : 0 < K) (l : List P2) (p : P2) : inI (l.map (sc K)) (sc K p) = inI l p := by
  have : cntP (l.map (sc K)) (sc K p) = cntP l p := by
    unfold cntP; rw [sumE_map]; exact sumE_congr fun i _ => by rw [passP_sc hK]
  rw [inI_eq, inI_eq, onL_sc hK, this]

/-! ### Where an edge passes a height -/
def lo (a b : P2) : P2 := if a.2 > b.2 then b else a
def hi (a b : P2) : P2 := if a.2 > b.2 then a else b
/-- The edge passes the height. -/
def stB (a b : P2) (y : Int) : Bool := decide ((lo a b).2 ≤ y) && decide (y < (hi a b).2)
/-- How high it is; where it passes, as many times. -/
def dE (a b : P2) : Int := (hi a b).2 - (lo a b).2
def xE (a b : P2) (y : Int) : Int := (lo a b).1 * dE a b + ((hi a b).1 - (lo a b).1) * (y - (lo a b).2)
theorem stB_iff (a b : P2) (y : Int) : stB a b y = true ↔ (lo a b).2 ≤ y ∧ y < (hi a b).2 := by unfold stB; simp
theorem pass_st (a b p : P2) : passP a b p = true ↔ stB a b p.2 = true ∧ dE a b * p.1 < xE a b p.2 := by
  have e : passP a b p = (decide ((lo a b).2 ≤ p.2) && decide (p.2 < (hi a b).2) && decide (0 < crs (lo a b).1 (lo a b).2 (hi a b).1 (hi a b).2 p.1 p.2)) := by
    unfold passP lo hi; split <;> rfl
  rw [e, stB_iff]
  simp only [Bool.and_eq_true, decide_eq_true_eq]
  have : crs (lo a b).1 (lo a b).2 (hi a b).1 (hi a b).2 p.1 p.2 = xE a b p.2 - dE a b * p.1 := by unfold crs xE dE; grind
  rw [this]
  omega
theorem dE_pos {a b : P2} {y : Int} (h : stB a b y = true) : 0 < dE a b := by rw [stB_iff] at h; unfold dE; omega
theorem lohi_has (a b p : P2) : hasP (lo a b) (hi a b) p = hasP a b p := by
  unfold lo hi; split
  · exact hasP_back _ _ _
  · rfl
theorem lo_sc {K : Int} (hK : 0 < K) (a b : P2) : lo (sc K a) (sc K b) = sc K (lo a b) ∧ hi (sc K a) (sc K b) = sc K (hi a b) := by
  have i3 : ((sc K a).2 > (sc K b).2) ↔ a.2 > b.2 := by have := le_sc hK a.2 b.2; unfold sc; dsimp only; omega
  unfold lo hi
  simp only [i3]
  constructor <;> split <;> rfl
theorem dE_sc {K : Int} (hK : 0 < K) (a b : P2) : dE (sc K a) (sc K b) = K * dE a b := by
  unfold dE; rw [(lo_sc hK a b).1, (lo_sc hK a b).2]; unfold sc; grind
theorem xE_sc {K : Int} (hK : 0 < K) (a b : P2) (y : Int) : xE (sc K a) (sc K b) (K * y) = K * (K * xE a b y) := by
  unfold xE; rw [dE_sc hK, (lo_sc hK a b).1, (lo_sc hK a b).2]; unfold sc; dsimp only; grind
theorem stB_sc {K : Int} (hK : 0 < K) (a b : P2) (y : Int) : stB (sc K a) (sc K b) (K * y) = stB a b y := by
  rw [Bool.eq_iff_iff, stB_iff, stB_iff, (lo_sc hK a b).1, (lo_sc hK a b).2]
  have h1 := le_sc hK (lo a b).2 y
  have h2 := le_sc hK (hi a b).2 y
  unfold sc; dsimp only; omega
/-- The point where an edge passes, scaled, is on the scaled edge. -/
theorem has_at {a b : P2} {y M : Int} (hM : 0 < M) (h : stB a b y = true) : hasP (sc (dE a b * M) a) (sc (dE a b * M) b) (M * xE a b y, dE a b * M * y) = true := by
  have hD := dE_pos h
  have hK := Int.mul_pos hD hM
  rw [← lohi_has, (lo_sc hK a b).1, (lo_sc hK a b).2]
  rw [stB_iff] at h
  unfold hasP
  refine has_of_between ?_ ?_ ?_ ?_
  · unfold xE sc dE crs; dsimp only; grind
  · exact (le_sc hK _ _).2 h.1
  · exact (le_sc hK _ _).2 (by omega)
  · have := le_sc hK (hi a b).2 (lo a b).2; unfold sc; dsimp only; unfold dE at *; omega
/-- The second edge passes right of where the first one does. -/
def rB (y : Int) (a b c d : P2) : Bool := stB c d y && decide (dE c d * xE a b y < dE a b * xE c d y)
theorem pass_at {a b c d : P2} {y : Int} (h : stB a b y = true) : passP (sc (dE a b) c) (sc (dE a b) d) (xE a b y, dE a b * y) = rB y a b c d := by
  have hD := dE_pos h
  rw [Bool.eq_iff_iff, pass_st]
  unfold rB
  rw [stB_sc hD, Bool.and_eq_true, decide_eq_true_eq, dE_sc hD, xE_sc hD]
  have e : dE a b * dE c d * xE a b y = dE a b * (dE c d * xE a b y) := by grind
  rw [e]
  have := le_sc hD (dE a b * xE c d y) (dE c d * xE a b y)
  constructor <;> rintro ⟨h1, h2⟩ <;> exact ⟨h1, by omega⟩
/-- Two edges that do not meet, and pass a height: one of them is right of the other one. -/
theorem r_one {a b c d : P2} {y : Int} (hab : a ≠ b) (hcd : c ≠ d) (hm : meetP a b c d = false) (h1 : stB a b y = true) (h2 : stB c d y = true) : b2i (rB y a b c d) + b2i (rB y c d a b) = 1 := by
  have d1 := dE_pos h1
  have d2 := dE_pos h2
  have hne : dE c d * xE a b y ≠ dE a b * xE c d y := by
    intro e
    have hK := Int.mul_pos d1 d2
    have k1 := has_at d2 h1
    have k2 := has_at d1 h2
    rw [e, Int.mul_comm (dE c d) (dE a b)] at *
    have := common_meet (sc_ne hK hab) (sc_ne hK hcd) k1 k2
    rw [meetP_sc hK, hm] at this
    cases this
  unfold rB
  rw [h1, h2, Bool.true_and, Bool.true_and]
  rcases Int.lt_or_gt_of_ne hne with h | h
  · rw [decide_eq_true h, decide_eq_false (by omega)]; rfl
  · rw [decide_eq_false (by omega), decide_eq_true (by omega)]; rfl
theorem r_pair {a b c d p : P2} (hab : a ≠ b) (hcd : c ≠ d) (hm : meetP a b c d = false) :
    b2i (passP a b p) * b2i (rB p.2 a b c d) + b2i (passP c d p) * b2i (rB p.2 c d a b) = b2i (passP a b p) * b2i (passP c d p) := by
  have imp : ∀ a b c d : P2, passP a b p = true → rB p.2 a b c d = true → passP c d p = true := by
    intro a b c d h1 h2
    rw [pass_st] at h1 ⊢
    unfold rB at h2
    rw [Bool.and_eq_true, decide_eq_true_eq] at h2
    refine ⟨h2.1, ?_⟩
    have d1 := dE_pos h1.1
    have d2 := dE_pos h2.1
    have t := Int.mul_lt_mul_of_pos_left h1.2 d2
    have e : dE c d * (dE a b * p.1) = dE a b * (dE c d * p.1) := by grind
    rw [e] at t
    exact Int.lt_of_mul_lt_mul_left (Int.lt_trans t h2.2) (by omega)
  cases h1 : passP a b p
  · cases h2 : passP c d p
    · simp [b2i]
    · cases h3 : rB p.2 c d a b
      · simp [b2i]
      · have := imp c d a b h2 h3; rw [h1] at this; cases this
  · cases h2 : passP c d p
    · cases h3 : rB p.2 a b c d
      · simp [b2i]
      · have := imp a b c d h1 h3; rw [h2] at this; cases this
    · have := r_one (y := p.2) hab hcd hm ((pass_st _ _ _).1 h1).1 ((pass_st _ _ _).1 h2).1
      have o : b2i true = 1 := rfl
      rw [o]; omega
/-! ### Sums over pairs -/
theorem sumF_swap (g : Nat → Nat → Int) (m n : Nat) : sumF (fun i => sumF (g i) n) m = sumF (fun j => sumF (fun i => g i j) m) n := by
  induction m with
  | zero =>
    have : ∀ n, sumF (fun _ => (0 : Int)) n = 0 := fun n => by induction n with
      | zero => rfl
      | succ n ih => show sumF _ n + 0 = 0; rw [ih]; rfl
    exact (this n).symm
  | succ m ih =>
    show sumF _ m + sumF (g m) n = sumF (fun j => sumF (fun i => g i j) m + g m j) n
    rw [sumF_add, ih]
theorem sumF_prod (x y : Nat → Int) (m n : Nat) : sumF (fun i => sumF (fun j => x i * y j) n) m = sumF x m * sumF y n := by
  have : (fun i => sumF (fun j => x i * y j) n) = fun i => sumF y n * x i := by funext i; rw [sumF_mul, Int.mul_comm]
  rw [this, sumF_mul, Int.mul_comm]
theorem sumF_pairs {x y : Nat → Int} {r s : Nat → Nat → Int} {m n : Nat} (h : ∀ i, i < m → ∀ j, j < n → x i * r i j + y j * s j i = x i * y j) :
    sumF (fun i => x i * sumF (r i) n) m + sumF (fun j => y j * sumF (s j) m) n = sumF x m * sumF y n := by
  have e1 : sumF (fun i => x i * sumF (r i) n) m = sumF (fun i => sumF (fun j => x i * r i j) n) m := sumF_congr fun i _ => (sumF_mul _ _ _).symm
  have e2 : sumF (fun j => y j * sumF (s j) m) n = sumF (fun i => sumF (fun j => y j * s j i) n) m := by
    rw [sumF_swap]; exact sumF_congr fun j _ => (sumF_mul _ _ _).symm
  rw [e1, e2, ← sumF_add, ← sumF_prod]
  refine sumF_congr fun i hi => ?_
  rw [← sumF_add]
  exact sumF_congr fun j hj => h i hi j hj
theorem sumF_mod {x s : Nat → Int} {β : Int} {m : Nat} (h : ∀ i, i < m → x i = 0 ∨ (x i = 1 ∧ s i % 2 = β % 2)) : sumF (fun i => x i * s i) m % 2 = (β * sumF x m) % 2 := by
  rw [← sumF_mul]
  have := sumF_even (f := fun i => x i * s i + - (β * x i)) (n := m) (fun i hi => by
    rcases h i hi with e | ⟨e, e2⟩
    · simp [e]
    · simp only [e, Int.one_mul, Int.mul_one]; omega)
  rw [sumF_add, sumF_neg] at this
  omega
/-- Is a corner of the second loop in the first one? As a number. -/
def innN (a b : List P2) : Int := if inI a (ptAt b 0) = 1 then 1 else 0
/-- TWO LOOPS THAT DO NOT MEET, seen from any point. -/
theorem two_loops {a b : List P2} (ha : Edgy a) (hb : Edgy b) (hm : apL a b = true) (p : P2) : (cntP a p * cntP b p) % 2 = (innN b a * cntP a p + innN a b * cntP b p) % 2 := by
  have hm' : apL b a = true := by rw [apL_comm]; exact hm
  have key : ∀ a b : List P2, Edgy a → Edgy b → apL b a = true → ∀ i, i < a.length →
      b2i (passP (ptAt a i) (ptAt a (nxt a i)) p) = 0 ∨ (b2i (passP (ptAt a i) (ptAt a (nxt a i)) p) = 1 ∧ sumF (fun j => b2i (rB p.2 (ptAt a i) (ptAt a (nxt a i)) (ptAt b j) (ptAt b (nxt b j)))) b.length % 2 = innN b a % 2) := by
    intro a b ha hb hm i hi
    cases hp : passP (ptAt a i) (ptAt a (nxt a i)) p
    · exact .inl rfl
    · right
      refine ⟨rfl, ?_⟩
      have hst := ((pass_st _ _ _).1 hp).1
      have hD := dE_pos hst
      have h1 := has_at (M := 1) (by omega) hst
      rw [Int.mul_one, Int.one_mul] at h1
      have hon : onL (a.map (sc (dE (ptAt a i) (ptAt a (nxt a i))))) (xE (ptAt a i) (ptAt a (nxt a i)) p.2, dE (ptAt a i) (ptAt a (nxt a i)) * p.2) = true := by
        rw [onL_iff]
        refine ⟨i, by rw [List.length_map]; exact hi, ?_⟩
        rw [map_nxt, map_at hi, map_at (nxt_lt (by omega))]; exact h1
      have hs := edge_side (edgy_sc hD hb) (edgy_sc hD ha) (apL_sc hD hm) hon
      rw [map_at (by omega), inI_sc hD] at hs
      have hc : cntP (b.map (sc (dE (ptAt a i) (ptAt a (nxt a i))))) (xE (ptAt a i) (ptAt a (nxt a i)) p.2, dE (ptAt a i) (ptAt a (nxt a i)) * p.2) = sumF (fun j => b2i (rB p.2 (ptAt a i) (ptAt a (nxt a i)) (ptAt b j) (ptAt b (nxt b j)))) b.length := by
        unfold cntP
        rw [sumE_map]
        exact sumF_congr fun j _ => by dsimp only; rw [pass_at hst]
      rw [← hc]
      have he := inI_eq (b.map (sc (dE (ptAt a i) (ptAt a (nxt a i))))) (xE (ptAt a i) (ptAt a (nxt a i)) p.2, dE (ptAt a i) (ptAt a (nxt a i)) * p.2)
      rw [hs.2, hs.1] at he
      simp only [Bool.false_eq_true, if_false] at he
      unfold innN
      rw [he]
      split <;> simp <;> omega
  have hpairs := sumF_pairs (m := a.length) (n := b.length) (x := fun i => b2i (passP (ptAt a i) (ptAt a (nxt a i)) p)) (y := fun j => b2i (passP (ptAt b j) (ptAt b (nxt b j)) p))
    (r := fun i j => b2i (rB p.2 (ptAt a i) (ptAt a (nxt a i)) (ptAt b j) (ptAt b (nxt b j)))) (s := fun j i => b2i (rB p.2 (ptAt b j) (ptAt b (nxt b j)) (ptAt a i) (ptAt a (nxt a i))))
    (fun i hi j hj => r_pair (ha i hi) (hb j hj) ((apL_iff a b).1 hm i hi j hj))
  have m1 := sumF_mod (key a b ha hb hm')
  have m2 := sumF_mod (key b a hb ha hm)
  have c1 : cntP a p = sumF (fun i => b2i (passP (ptAt a i) (ptAt a (nxt a i)) p)) a.length := rfl
  have c2 : cntP b p = sumF (fun j => b2i (passP (ptAt b j) (ptAt b (nxt b j)) p)) b.length := rfl
  rw [c1, c2, ← hpairs]
  omega
theorem inI_odd {l : List P2} {p : P2} (h : inI l p = 1) : cntP l p % 2 = 1 := by
  rw [inI_eq] at h
  split at h
  · omega
  · split at h <;> omega
/-- What is in a loop that is in another one is in that one. -/
theorem in_in_in {o h : List P2} {p : P2} (ho : okV o = true) (hh : okV h = true) (ha : arB o h = true) (hp : inI h p = 1) : inI o p = 1 := by
  rw [arB_iff] at ha
  have z1 := okV_pos ho
  have z2 := okV_pos hh
  have nb := not_both (by omega) (by omega) ha.1 ha.2 0 (by omega)
  have t := two_loops (okV_edgy ho) (okV_edgy hh) ha.1 p
  have n1 : innN o h = 1 := by unfold innN; rw [if_pos ha.2]
  have n2 : innN h o = 0 := by unfold innN; rw [nb]; rfl
  rw [n1, n2, Int.zero_mul, Int.one_mul, Int.zero_add, Int.mul_emod, inI_odd hp] at t
  have hoff : onL o p = false := by
    rw [Bool.eq_false_iff]; intro hon
    have := (on_side hh ho (by rw [apL_comm]; exact ha.1) hon).1
    rw [nb] at this; omega
  rw [inI_eq, hoff]
  have : cntP o p % 2 = 1 := by
    rcases (show cntP o p % 2 = 0 ∨ cntP o p % 2 = 1 by omega) with e | e
    · rw [e] at t; simp at t
    · exact e
  simp [this]
/-- What is in a loop is beyond one that is beyond it. -/
theorem in_beyond {a b : List P2} {p : P2} (ha : okV a = true) (hb : okV b = true) (h : beB a b = true) (hp : inI a p = 1) : inI b p = -1 := by
  rw [beB_iff] at h
  have t := two_loops (okV_edgy ha) (okV_edgy hb) h.1 p
  have n1 : innN a b = 0 := by unfold innN; rw [h.2.1]; rfl
  have n2 : innN b a = 0 := by unfold innN; rw [h.2.2]; rfl
  rw [n1, n2, Int.zero_mul, Int.zero_mul, Int.zero_add, Int.mul_emod, inI_odd hp] at t
  have hoff : onL b p = false := by
    rw [Bool.eq_false_iff]; intro hon
    have := (on_side ha hb h.1 hon).1
    rw [h.2.1] at this; omega
  refine inI_none hoff ?_
  rcases (show cntP b p % 2 = 0 ∨ cntP b p % 2 = 1 by omega) with e | e
  · exact e
  · rw [e] at t; simp at t
/-- P44: a hole that is filled. -/
theorem fill {o h : List P2} {hs : List (List P2)} {p : P2} (hv : plV o (hs ++ [h]) = true) :
    (0 ≤ inI h p → plI o (hs ++ [h]) p = - inI h p ∧ plI o hs p = 1) ∧ (inI h p = -1 → plI o (hs ++ [h]) p = plI o hs p) := by
  have hv' : plV o hs = true := by have := plV_less hv; rwa [List.dropLast_concat] at this
  have L := (plV_iff _ _).1 hv
  have ok := L.ok h (by simp)
  have ar := L.ar h (by simp)
  have e3 := inI_3 h p
  rw [plI_snoc]
  have le1 : plI o hs p ≤ 1 := by
    have : ∀ (hs : List (List P2)) (s : Int), s ≤ 1 → hs.foldl (fun s h => min s (-(inI h p))) s ≤ 1 := by
      intro hs
      induction hs with
      | nil => intro s h; exact h
      | cons x xs ih => intro s h; exact ih _ (by dsimp only; omega)
    exact this hs _ (by have := inI_3 o p; omega)
  constructor
  · intro h0
    have : plI o hs p = 1 := by
      refine (plI_one hv' p).2 ⟨?_, ?_⟩
      · rcases e3 with e | e | e
        · rw [(on_side L.out ok ((arB_iff _ _).1 ar).1 ((inI_zero _ _).1 e)).1]; exact ((arB_iff _ _).1 ar).2
        · exact in_in_in L.out ok ar e
        · omega
      · intro k hk
        obtain ⟨i, hi, rfl⟩ := List.getElem_of_mem hk
        have hbe := L.be i hs.length hi (by simp)
        rw [List.getElem?_append_left hi, List.getElem?_concat_length, List.getElem?_eq_getElem hi, Option.getD_some, Option.getD_some] at hbe
        have okk := L.ok hs[i] (by simp)
        have hbe' : beB h hs[i] = true := by rw [beB_comm]; exact hbe
        rcases e3 with e | e | e
        · have hb := (beB_iff _ _).1 hbe
          rw [(on_side okk ok hb.1 ((inI_zero _ _).1 e)).1]; exact hb.2.1
        · exact in_beyond ok okk hbe' e
        · omega
    rw [this]
    exact ⟨by omega, rfl⟩
  · intro e
    rw [e]; omega
end Go.Proofs.Ythedlopfjlnogaa
namespace Go.Proofs.Ythedlopfjlnogaa
open Go.RowKit Go.Shelf Go.Sort

set_option maxRecDepth 100000 in
set_option maxHeartbeats 1000000 in
/-- LoopIn. -/
theorem in_any' (a : Option Addr) (len cap : Nat) (pts : List P2) (p : P2) (hlen : len ≤ 1048576) (w : World) (hP : Pts w.heap.size w a len pts) :
    Calls Try.prog 15 #[.slice a len cap, .agg #[.int .i64 p.1, .int .i64 p.2]] w fun e W' => e = .returned (.int .i64 (inV pts p)) ∧ Below w.heap.size w W' := by
  obtain ⟨W, hW, BW, T⟩ : ∃ W, W = w.alloc (.cells #[.int .i64 p.1, .int .i64 p.2] 33) ∧ Below w.heap.size w W ∧ W.heap[w.heap.size]? = some (.cells #[.int .i64 p.1, .int .i64 p.2] 33) := ⟨_, rfl, (by repeat (first | exact bw_refl _ | assumption | apply bw_drewN | apply bw_drew | apply bw_alloc | refine bw_set ?_ (by simp) _)), heap_new _ _⟩
  have hP1 := (hP.below BW).grow BW.size
  have hcall := ok_any a len cap pts hlen W hP1
  cases hok : okV pts
  · rw [hok] at hcall
    have e1 : Hid (inV pts p = -1) := by change _ = _; unfold inV; rw [hok]; rfl
    go_enter Try.func15, Try.ntmps15
    go_upto_region 1 with fail
    rw [← hW]
    clear hW
    go_wp2_with (go_at_call 47; refine hcall.mono ?_; rintro e v ⟨rfl, J0⟩)
    go_ret
    exact ⟨ret_int e1.out.symm, bw_trans BW J0⟩
  rw [hok] at hcall
  cases hp : ptB p.1 p.2
  · have e1 : Hid (inV pts p = -1) := by change _ = _; unfold inV; rw [hok, hp]; rfl
    go_enter Try.func15, Try.ntmps15
    go_upto_region 1 with fail
    rw [← hW]
    clear hW
    go_wp2_with (go_at_call 47; refine hcall.mono ?_; rintro e v ⟨rfl, J0⟩; obtain ⟨t0, t1⟩ := blk_2 (keep J0 T))
    refine (pt_raw p _).mono ?_
    rw [hp]
    rintro e v2 ⟨rfl, J1⟩
    go_wp2_with fail
    go_ret
    exact ⟨ret_int e1.out.symm, bw_trans (bw_trans BW J0) J1⟩
  · have e1 : Hid (inV pts p = inI pts p) := by change _ = _; unfold inV; rw [hok, hp]; rfl
    go_enter Try.func15, Try.ntmps15
    go_upto_region 1 with fail
    rw [← hW]
    clear hW
    go_wp2_with (go_at_call 47; refine hcall.mono ?_; rintro e v ⟨rfl, J0⟩; obtain ⟨t0, t1⟩ := blk_2 (keep J0 T))
    refine (pt_raw p _).mono ?_
    rw [hp]
    rintro e v2 ⟨rfl, J1⟩
    clear t0 t1
    have J2 := bw_trans J0 J1
    obtain ⟨t0, t1⟩ := blk_2 (keep J2 T)
    go_wp2_with fail
    refine (where_any a len cap pts p hlen hok hp v2 ((hP1.below J2).grow J2.size)).mono ?_
    rintro e v3 ⟨rfl, J3⟩
    go_wp2_with fail
    go_ret
    exact ⟨ret_int e1.out.symm, bw_trans (bw_trans BW J2) J3⟩
end Go.Proofs.Ythedlopfjlnogaa
namespace Go.Proofs.Ythedlopfjlnogaa
open Go.RowKit Go.Sort

theorem plInV_ok {o : List P2} {hs : List (List P2)} {p : P2} (h : plV o hs = true) (hp : ptB p.1 p.2 = true) : plInV o hs p = plI o hs p := by unfold plInV; rw [h, hp]; rfl
theorem plInV_no {o : List P2} {hs : List (List P2)} {p : P2} (h : plV o hs = false) : plInV o hs p = -1 := by unfold plInV; rw [h]; rfl
theorem inV_ok {l : List P2} {p : P2} (h : okV l = true) (hp : ptB p.1 p.2 = true) : inV l p = inI l p := by unfold inV; rw [h, hp]; rfl
theorem Plt.less {W : World} {a ah : Option Addr} {la m : Nat} {o x : List P2} {hs : List (List P2)} (h : Plt W a la ah (m + 1) o (hs ++ [x])) : Plt W a la ah m o hs := by
  obtain ⟨h1, h2, h3, A, L, C, h4, h5⟩ := h
  have hm : hs.length = m := by simpa using h3
  refine ⟨h1, h2, hm, A, L, C, ?_, fun j hj => ?_⟩
  · rcases h4 with h | ⟨b, off, e, hb, hc⟩
    · omega
    · exact .inr ⟨b, off, e, hb, fun j hj => hc j (by omega)⟩
  · have := h5 j (by omega)
    rwa [List.getElem?_append_left (by omega)] at this
set_option maxRecDepth 100000 in
set_option maxHeartbeats 4000000 in
theorem plateFill_walk (w : World) (a0 : Option Addr) (len0 cap0 : Nat) (z0 : List Int) (r0 : IsRow .u8 w a0 len0 cap0 z0) :
    Calls Try.prog 5 #[.slice a0 len0 cap0] w fun e w' => e = .returned (.bool true) ∧ Below w.heap.size w w' := by
  by_cases hl : 1048576 < len0
  · go_enter Try.func5, Try.ntmps5
    go_wp2
    go_ret
    exact ⟨rfl, bw_refl _⟩
  have hl0 : len0 ≤ 1048576 := by omega
  clear hl
  have heq : ∀ b : Int, (b == b) = true := by simp
  go_enter Try.func5, Try.ntmps5
  go_wp2_with fail
  refine (drawPlateIn_any w _ r0 (bw_refl _)).mono ?_
  rintro e w1 ⟨⟨g, n, c, l⟩, hv, hs, x, y, he, hPB, hD, ⟨hs3, hst⟩, J1⟩
  obtain rfl : e = .returned (.tuple #[.agg #[.slice (some ⟨g, 0, none⟩) n c, hv], .agg #[.int .i64 x, .int .i64 y]]) := he
  obtain ⟨gh, ch, rfl⟩ : ∃ gh ch, hv = .slice (some ⟨gh, 0, none⟩) hs.length ch := own_seat hD.2.2.1 hst
  obtain ⟨W, hW, BW, T, T2⟩ := boxes2 w1 (.cells #[.slice (some ⟨g, 0, none⟩) n c, .slice (some ⟨gh, 0, none⟩) hs.length ch] 26) (.cells #[.int .i64 x, .int .i64 y] 33)
  replace hD := hD.below BW
  have K := bw_trans J1 BW
  go_upto_region 5 with fail
  rw [← hW]
  clear hW BW J1
  have hcap : hs.length ≤ ch := by
    rcases hD.2.2.1.2 with ⟨e, _⟩ | ⟨g', c', cur, e, _, _, h1, _⟩
    · cases e
    · cases e; exact h1
  have hPl := hD.plt
  obtain ⟨t0, t1⟩ := blk_2 T
  obtain ⟨u0, u1⟩ := blk_2 T2
  go_wp2_with fail
  refine (plateIn_any _ _ n c hs.length ch l _ (x, y) _ hPl).mono ?_
  rintro e w2 ⟨rfl, J⟩
  replace K := bw_trans K J
  replace T := keep J T
  replace T2 := keep J T2
  replace hD := hD.below J
  replace hPl := hPl.below J
  clear J t0 t1 u0 u1
  obtain ⟨t0, t1⟩ := blk_2 T
  obtain ⟨u0, u1⟩ := blk_2 T2
  go_wp2_with fail
  refine (sPlateIn_any _ _ n c hs.length ch l _ (x, y) _ hPl).mono ?_
  rintro e w3 ⟨rfl, J⟩
  replace K := bw_trans K J
  replace T := keep J T
  replace T2 := keep J T2
  replace hD := hD.below J
  replace hPl := hPl.below J
  clear J t0 t1 u0 u1
  obtain ⟨t0, t1⟩ := blk_2 T
  obtain ⟨u0, u1⟩ := blk_2 T2
  cases hv : plV l (hs.map LoopT.l)
  case false =>
    go_wp2_with fail
    refine (sPlateOk_any _ _ n c hs.length ch l _ _ hPl).mono ?_
    rw [hv]
    rintro e w4 ⟨rfl, J⟩
    replace K := bw_trans K J
    replace hPl := hPl.below J
    obtain ⟨t0, t1⟩ := blk_2 (keep J T)
    obtain ⟨u0, u1⟩ := blk_2 (keep J T2)
    go_wp2_with fail
    refine (sPlateIn_any _ _ n c hs.length ch l _ (x, y) _ hPl).mono ?_
    rintro e w5 ⟨rfl, J⟩
    go_wp2_with fail
    go_ret
    exact ⟨rfl, bw_trans K J⟩
  go_wp2_with fail
  refine (sPlateOk_any _ _ n c hs.length ch l _ _ hPl).mono ?_
  rw [hv]
  rintro e w4 ⟨rfl, J⟩
  replace K := bw_trans K J
  replace T := keep J T
  replace T2 := keep J T2
  replace hD := hD.below J
  replace hPl := hPl.below J
  clear J t0 t1 u0 u1
  obtain ⟨t0, t1⟩ := blk_2 T
  obtain ⟨u0, u1⟩ := blk_2 T2
  cases hp : ptB x y
  case false =>
    go_wp2_with fail
    refine (sPt_any x y _).mono ?_
    rw [hp]
    rintro e w5 ⟨rfl, J⟩
    replace K := bw_trans K J
    replace hPl := hPl.below J
    obtain ⟨t0, t1⟩ := blk_2 (keep J T)
    obtain ⟨u0, u1⟩ := blk_2 (keep J T2)
    go_wp2_with fail
    refine (sPlateIn_any _ _ n c hs.length ch l _ (x, y) _ hPl).mono ?_
    rintro e w6 ⟨rfl, J⟩
    go_wp2_with fail
    go_ret
    exact ⟨rfl, bw_trans K J⟩
  go_wp2_with fail
  refine (sPt_any x y _).mono ?_
  rw [hp]
  rintro e w5 ⟨rfl, J⟩
  replace K := bw_trans K J
  replace T := keep J T
  replace T2 := keep J T2
  replace hD := hD.below J
  replace hPl := hPl.below J
  clear J t0 t1 u0 u1
  obtain ⟨t0, t1⟩ := blk_2 T
  obtain ⟨u0, u1⟩ := blk_2 T2
  rcases List.eq_nil_or_concat hs with rfl | ⟨hs', t, hhs⟩
  · go_wp2_with fail
    refine (sPlateIn_any _ _ n c 0 ch l _ (x, y) _ hPl).mono ?_
    rintro e w6 ⟨rfl, J⟩
    go_wp2_with fail
    go_ret
    exact ⟨rfl, bw_trans K J⟩
  rw [List.concat_eq_append] at hhs
  obtain ⟨gt, nt, ct, lt⟩ := t
  obtain ⟨m, hm⟩ : ∃ m, hs'.length = m := ⟨_, rfl⟩
  have hml : hs.length = m + 1 := by rw [hhs]; simp [hm]
  have htk := hD.2.2.2 ⟨gt, nt, ct, lt⟩ (by rw [hhs]; simp)
  have hcell := own_news hD.2.2.1 (j := m) (u := .slice (some ⟨gt, 0, none⟩) nt ct) (by rw [hhs]; simp [← hm, LoopT.v])
  rw [show ((⟨gh, 0, none⟩ : Addr).add m) = ⟨gh, m, none⟩ by unfold Addr.add; split <;> simp_all] at hcell
  have hmap : hs.map LoopT.l = hs'.map LoopT.l ++ [lt] := by rw [hhs]; simp
  have hvin : plInV l (hs.map LoopT.l) (x, y) = plI l (hs'.map LoopT.l ++ [lt]) (x, y) := by rw [plInV_ok hv hp, hmap]
  rw [hmap, hml] at hPl
  have hPq := hPl.less
  rw [hmap] at hv
  have hF := fill (p := (x, y)) hv
  have hv' : plV l (hs'.map LoopT.l) = true := by have := plV_less hv; rwa [List.dropLast_concat] at this
  have hok : okV lt = true := ((plV_iff _ _).1 hv).ok lt (by simp)
  have hvq : plInV l (hs'.map LoopT.l) (x, y) = plI l (hs'.map LoopT.l) (x, y) := plInV_ok hv' hp
  have hvl : inV lt (x, y) = inI lt (x, y) := inV_ok hok hp
  obtain ⟨k1, k2, k3, k4, k5, k6, k7⟩ := htk
  have hPt := blk_pts k7 k3
  have k2' : nt ≤ 1048576 := by have : nt ≤ 8 := k2; omega
  have e3 := inI_3 lt (x, y)
  have hm3 : (m : Int) ≤ 3 := by omega
  rw [hml] at T t1 hcap
  rw [hml, hvin]
  clear hvin hhs hD hst hs3 k1 k2 k3 k4 k5 k6 k7 hPB hPl hv hv' hok hmap hml
  generalize plI l (hs'.map LoopT.l ++ [lt]) (x, y) = uin at *
  generalize inI lt (x, y) = ul at *
  generalize plI l (hs'.map LoopT.l) (x, y) = uq at *
  have i0 : (0 : Int) ≤ (m : Int) := Int.natCast_nonneg _
  have i1 : (m : Int) < (m : Int) + 1 := by omega
  have i2 : (m : Int) ≤ (ch : Int) := by omega
  have i3 : ((m : Int) + 1 == 0) = false := by simp; omega
  have i4 : (ch = 0) = False := by simp; omega
  have zp5 := blk_lt T
  have nw0 := World.new_ne w5 _ t0
  have nw1 := World.new_ne w5 _ t1
  go_wp2_with fail
  go_region_held3 (fun w' => w'.cell? ⟨w1.heap.size, 0, none⟩ = some (.slice (some ⟨g, 0, none⟩) n c) ∧ w'.cell? ⟨w1.heap.size, 1, none⟩ = some (.slice (some ⟨gh, 0, none⟩) (m + 1) ch)) (go_keep) (fail)
  have BQ : Below w5.heap.size w5 (w5.alloc (.cells #[.slice (some ⟨g, 0, none⟩) n c, .slice (some ⟨gh, 0, none⟩) m ch] 26)).drew := (by repeat (first | exact bw_refl _ | assumption | apply bw_drewN | apply bw_drew | apply bw_alloc | refine bw_set ?_ (by simp) _))
  have Q : (w5.alloc (.cells #[.slice (some ⟨g, 0, none⟩) n c, .slice (some ⟨gh, 0, none⟩) m ch] 26)).drew.heap[w5.heap.size]? = some (.cells #[.slice (some ⟨g, 0, none⟩) n c, .slice (some ⟨gh, 0, none⟩) m ch] 26 (0, 0)) := heap_new w5 _
  replace K := bw_trans K BQ
  replace T2 := keep BQ T2
  replace hPq := hPq.below BQ
  replace hPt := (hPt.below BQ).grow BQ.size
  clear u0 u1 t0 t1 nw0 nw1
  generalize (w5.alloc (.cells #[.slice (some ⟨g, 0, none⟩) n c, .slice (some ⟨gh, 0, none⟩) m ch] 26)).drew = v5 at *
  obtain ⟨u0, u1⟩ := blk_2 T2
  go_wp2_with fail
  refine (in_any' (some ⟨gt, 0, none⟩) nt ct lt (x, y) k2' _ hPt).mono ?_
  rw [hvl]
  rintro e w6 ⟨rfl, J⟩
  replace K := bw_trans K J
  replace T2 := keep J T2
  replace hPq := hPq.below J
  replace hPt := (hPt.below J).grow J.size
  replace Q := keep J Q
  clear u0 u1 BQ J
  obtain ⟨u0, u1⟩ := blk_2 T2
  obtain ⟨q0, q1⟩ := blk_2 Q
  by_cases hge : 0 ≤ ul
  · obtain ⟨f1, f2⟩ := hF.1 hge
    have nl : IntKind.i64.wrap (-ul) = -ul := wrap_small (by omega) (by omega)
    have hb : (uin == -ul) = true := by simpa using f1
    have hb2 : (uq == 1) = true := by simpa using f2
    go_wp2_with fail
    refine (in_any' (some ⟨gt, 0, none⟩) nt ct lt (x, y) k2' _ hPt).mono ?_
    rw [hvl]
    rintro e w7 ⟨rfl, J⟩
    replace K := bw_trans K J
    replace T2 := keep J T2
    replace hPq := hPq.below J
    replace hPt := (hPt.below J).grow J.size
    replace Q := keep J Q
    clear u0 u1 q0 q1 J
    obtain ⟨u0, u1⟩ := blk_2 T2
    obtain ⟨q0, q1⟩ := blk_2 Q
    go_wp2_with fail
    refine (plateIn_any _ _ n c m ch l _ (x, y) _ hPq).mono ?_
    rw [hvq]
    rintro e w8 ⟨rfl, J⟩
    go_wp2_with fail
    go_ret
    exact ⟨by first | rfl | simp [f2] | simp, bw_trans K J⟩
  · have f1 := hF.2 (by omega)
    have hb : (uq == uin) = true := by simp [f1]
    go_wp2_with fail
    refine (plateIn_any _ _ n c m ch l _ (x, y) _ hPq).mono ?_
    rw [hvq]
    rintro e w7 ⟨rfl, J⟩
    go_wp2_with fail
    go_ret
    exact ⟨by first | rfl | simp [f1] | simp, bw_trans K J⟩
end Go.Proofs.Ythedlopfjlnogaa
namespace Go.Proofs.Ythedlopfjlnogaa
open Go.RowKit Go.Sort

theorem PlD.hole {base : Nat} {W : World} {o : LoopT} {gh ch : Nat} {hs : List LoopT} (h : PlD base W o (.slice (some ⟨gh, 0, none⟩) hs.length ch) hs) {j : Nat} (hj : j < hs.length) :
    ∃ gt nt ct lt, hs[j]? = some (⟨gt, nt, ct, lt⟩ : LoopT) ∧ (hs.map LoopT.l)[j]?.getD [] = lt ∧ W.cell? ⟨gh, j, none⟩ = some (.slice (some ⟨gt, 0, none⟩) nt ct) ∧ 3 ≤ nt ∧ nt ≤ 8 ∧ lt.length = nt ∧ PtBlk W gt ct lt nt := by
  obtain ⟨_, _, hr, ht⟩ := h
  have hc := own_news hr (j := j) (u := (hs[j]).v) (by simp [hj])
  rw [show ((⟨gh, 0, none⟩ : Addr).add j) = ⟨gh, j, none⟩ by unfold Addr.add; split <;> simp_all] at hc
  have hk := ht hs[j] (List.getElem_mem hj)
  have e1 : hs[j]? = some hs[j] := by simp [hj]
  have e2 : (hs.map LoopT.l)[j]?.getD [] = hs[j].l := by simp [hj]
  generalize hs[j] = t at *
  obtain ⟨gt, nt, ct, lt⟩ := t
  obtain ⟨k1, k2, k3, k4, k5, k6, k7⟩ := hk
  exact ⟨gt, nt, ct, lt, e1, e2, hc, k1, k2, k3, k7⟩
theorem blk_pt {W : World} {g c n k : Nat} {l : List P2} (h : PtBlk W g c l n) (hk : k < n) : W.cell? ⟨g, k * 2, none⟩ = some (.int .i64 (ptAt l k).1) ∧ W.cell? ⟨g, k * 2 + 1, none⟩ = some (.int .i64 (ptAt l k).2) := by
  obtain ⟨cur, h, hs, hc⟩ := h
  rw [row_cell h, row_cell h]; exact hc k hk
theorem plt_one {W : World} {a x : Option Addr} {la lx cx b : Nat} {o xs : List P2} {t : TypeId} (hla : la ≤ 1048576) (hO : Pts W.heap.size W a la o) (hb : W.heap[b]? = some (.cells #[.slice x lx cx] t (0, 0))) (hlx : lx ≤ 1048576) (hx : Pts W.heap.size W x lx xs) : Plt W a la (some ⟨b, 0, none⟩) 1 o [xs] := by
  refine ⟨hla, hO, rfl, fun _ => x, fun _ => lx, fun _ => cx, .inr ⟨b, 0, rfl, blk_lt hb, fun j hj => ?_⟩, fun j hj => ?_⟩
  · obtain rfl : j = 0 := by omega
    rw [row_cell hb]; rfl
  · obtain rfl : j = 0 := by omega
    exact ⟨hlx, hx⟩
theorem plt_two {W : World} {a x : Option Addr} {la lx cx b : Nat} {o xs : List P2} {t : TypeId} (hla : la ≤ 1048576) (hO : Pts W.heap.size W a la o) (hb : W.heap[b]? = some (.cells #[.slice x lx cx, .slice x lx cx] t (0, 0))) (hlx : lx ≤ 1048576) (hx : Pts W.heap.size W x lx xs) : Plt W a la (some ⟨b, 0, none⟩) 2 o [xs, xs] := by
  refine ⟨hla, hO, rfl, fun _ => x, fun _ => lx, fun _ => cx, .inr ⟨b, 0, rfl, blk_lt hb, fun j hj => ?_⟩, fun j hj => ?_⟩
  · obtain rfl | rfl : j = 0 ∨ j = 1 := by omega
    · rw [row_cell hb]; rfl
    · rw [row_cell hb]; rfl
  · obtain rfl | rfl : j = 0 ∨ j = 1 := by omega
    · exact ⟨hlx, hx⟩
    · exact ⟨hlx, hx⟩
set_option maxRecDepth 100000 in
set_option maxHeartbeats 8000000 in
theorem plateHoles_walk (w : World) (a0 : Option Addr) (len0 cap0 : Nat) (z0 : List Int) (r0 : IsRow .u8 w a0 len0 cap0 z0) (a1 : Option Addr) (len1 cap1 : Nat) (z1 : List Int) (_ : IsRow .u8 w a1 len1 cap1 z1) :
    Calls Try.prog 4 #[.slice a0 len0 cap0, .slice a1 len1 cap1] w fun e w' => e = .returned (.bool true) ∧ Below w.heap.size w w' := by
  by_cases hl : 1048576 < len0
  · go_enter Try.func4, Try.ntmps4
    go_wp2
    go_ret
    exact ⟨rfl, bw_refl _⟩
  by_cases hl' : 1048576 < len1
  · go_enter Try.func4, Try.ntmps4
    go_wp2
    go_ret
    exact ⟨rfl, bw_refl _⟩
  have hl0 : len0 ≤ 1048576 := by omega
  have hl1 : len1 ≤ 1048576 := by omega
  clear hl hl'
  go_enter Try.func4, Try.ntmps4
  go_wp2_with fail
  refine (drawPlateOk_any w _ r0 (bw_refl _)).mono ?_
  rintro e w1 ⟨⟨g, n, c, l⟩, hv, hs, he, hD, ⟨hs4, hst⟩, J1⟩
  obtain rfl : e = .returned (.agg #[.slice (some ⟨g, 0, none⟩) n c, hv]) := he
  obtain ⟨gh, ch, rfl⟩ : ∃ gh ch, hv = .slice (some ⟨gh, 0, none⟩) hs.length ch := own_seat hD.2.2.1 hst
  obtain ⟨W, hW, BW, T⟩ := boxes1' w1 (.cells #[.slice (some ⟨g, 0, none⟩) n c, .slice (some ⟨gh, 0, none⟩) hs.length ch] 26)
  replace hD := hD.below BW
  have K := bw_trans J1 BW
  go_upto_region 5 with fail
  rw [← hW]
  clear hW BW J1
  have hPl := hD.plt
  obtain ⟨t0, t1⟩ := blk_2 T
  go_wp2_with fail
  refine (plateOk_any _ _ n c hs.length ch l _ _ hPl).mono ?_
  rintro e w2 ⟨rfl, J⟩
  replace K := bw_trans K J
  replace T := keep J T
  replace hD := hD.below J
  replace hPl := hPl.below J
  clear J t0 t1
  obtain ⟨t0, t1⟩ := blk_2 T
  go_wp2_with fail
  refine (sPlateOk_any _ _ n c hs.length ch l _ _ hPl).mono ?_
  rintro e w3 ⟨rfl, J⟩
  replace K := bw_trans K J
  replace T := keep J T
  replace hD := hD.below J
  replace hPl := hPl.below J
  clear J t0 t1
  obtain ⟨t0, t1⟩ := blk_2 T
  cases hv : plV l (hs.map LoopT.l)
  case false =>
    go_wp2_with fail
    refine (sPlateOk_any _ _ n c hs.length ch l _ _ hPl).mono ?_
    rw [hv]
    rintro e w4 ⟨rfl, J⟩
    go_wp2_with fail
    go_ret
    exact ⟨rfl, bw_trans K J⟩
  have hL := (plV_iff _ _).1 hv
  have hs2 : hs.length ≤ 2 := by have := plV_len hv; simpa using this
  have hokO : okV l = true := hL.out
  have hokH : Hid (∀ j, j < hs.length → okV ((hs.map LoopT.l)[j]?.getD []) = true) := fun j hj => hL.ok _ (by rw [List.getElem?_eq_getElem (by simpa using hj), Option.getD_some]; exact List.getElem_mem _)
  have hin : Hid (∀ i, i < hs.length → ∀ k, k < ((hs.map LoopT.l)[i]?.getD []).length → inI l (ptAt ((hs.map LoopT.l)[i]?.getD []) k) = 1) := fun i hi k hk => hole_in hL (by simpa using hi) hk
  have hout : Hid (∀ i j, i < hs.length → j < hs.length → i ≠ j → ∀ k, k < ((hs.map LoopT.l)[i]?.getD []).length → inI ((hs.map LoopT.l)[j]?.getD []) (ptAt ((hs.map LoopT.l)[i]?.getD []) k) = -1) := fun i j hi hj hij k hk => hole_out hL (by simpa using hi) (by simpa using hj) hij hk
  have hgP := hD.1
  obtain ⟨o1, o2, o3, o4, o5, o6, o7⟩ := hgP
  have o2' : n ≤ 1048576 := by have : n ≤ 8 := o2; omega
  have hPo := blk_pts o7 o3
  go_wp2_with fail
  go_loopw [7] (fun i wr => ∃ k : Nat, k ≤ hs.length ∧ i = .int .i64 k ∧ Below w3.heap.size w3 wr) (fun i _ => hs.length - (intOf i).toNat)
  case atStart => exact ⟨0, Nat.zero_le _, rfl, bw_refl _⟩
  case round =>
    obtain ⟨i, hi, rfl, hnx⟩ := hrel
    rename World => wo
    by_cases hlt : i < hs.length
    case pos =>
      obtain ⟨t0', t1'⟩ := blk_2 (keep hnx T)
      have ii0 : (0 : Int) ≤ (i : Int) := Int.natCast_nonneg _
      have ii1 : (i : Int) < (hs.length : Int) := by omega
      obtain ⟨gt, nt, ct, lt, ht1, ht2, htc, nt3, nt8, htl, htb⟩ := (hD.below hnx).hole hlt
      have hokt : Hid (okV lt = true) := by have := hokH.out i hlt; rw [ht2] at this; exact this
      clear t0 t1
      go_wp2_with fail
      go_loopw [8] (fun k wr => ∃ j : Nat, j ≤ nt ∧ k = .int .i64 j ∧ Below wo.heap.size wo wr) (fun k _ => nt - (intOf k).toNat)
      case atStart => exact ⟨0, Nat.zero_le _, rfl, bw_refl _⟩
      case round =>
        obtain ⟨j, hj, rfl, hn2⟩ := hrel
        rename World => wi
        have zz : wo.heap.size ≤ wi.heap.size := hn2.size
        clear t0' t1'
        have T2 := keep hn2 (keep hnx T)
        obtain ⟨t0, t1⟩ := blk_2 T2
        have hgh : gh < wo.heap.size := ((hD.below hnx).2.2.1.lt gh rfl).2
        have htc2 := (hn2.cell (p := ⟨gh, i, none⟩) hgh).trans htc
        have htb2 := htb.below hn2
        by_cases hjt : j < nt
        case pos =>
          have jj0 : (0 : Int) ≤ (j : Int) := Int.natCast_nonneg _
          have jj1 : (j : Int) < (nt : Int) := by omega
          obtain ⟨p0, p1⟩ := blk_pt htb2 hjt
          have hpB := okV_pt hokt.out (i := j) (by omega)
          have hi1 : inV l (ptAt lt j) = 1 := by rw [inV_ok hokO hpB]; have := hin.out i hlt j (by rw [ht2]; omega); rw [ht2] at this; exact this
          have hPo2 := ((hPo.below (bw_trans hnx hn2)).grow (bw_trans hnx hn2).size)
          obtain ⟨px, hpx⟩ : ∃ q, (ptAt lt j).1 = q := ⟨_, rfl⟩
          obtain ⟨py, hpy⟩ : ∃ q, (ptAt lt j).2 = q := ⟨_, rfl⟩
          have hpp : ptAt lt j = (px, py) := Prod.ext hpx hpy
          rw [hpx, hpy] at hpB
          rw [hpp] at hi1
          rw [hpx] at p0
          rw [hpy] at p1
          obtain ⟨W3, hW3, B3, At⟩ := boxes1' wi (.cells #[.int .i64 px, .int .i64 py] 33)
          have T3 := keep B3 T2
          have zwi := blk_lt T2
          have K3 := bw_trans (bw_trans hnx hn2) B3
          have hPo3 := (hPo2.below B3).grow B3.size
          clear hPo2
          go_wp2_with fail
          rw [← hW3]
          clear hW3
          refine (in_any' (some ⟨g, 0, none⟩) n c l (px, py) o2' _ hPo3).mono ?_
          rw [hi1]
          rintro e w6 ⟨rfl, J⟩
          have T6 := keep J T3
          have At6 := keep J At
          have K6 := bw_trans K3 J
          have hD6 := hD.below K6
          have n6 : Below wo.heap.size wo w6 := bw_trans (bw_trans hn2 B3) J
          clear t0 t1 J T3 At hPo3 K3
          obtain ⟨t0, t1⟩ := blk_2 T6
          go_wp2_with fail
          go_loopw [10] (fun nn wr => ∃ q : Nat, q ≤ hs.length ∧ nn = .int .i64 q ∧ Below w6.heap.size w6 wr) (fun nn _ => hs.length - (intOf nn).toNat)
          case atStart => exact ⟨0, Nat.zero_le _, rfl, bw_refl _⟩
          case round =>
            obtain ⟨q, hq, rfl, hn3⟩ := hrel
            rename World => wn
            clear t0 t1
            have T7 := keep hn3 T6
            obtain ⟨t0, t1⟩ := blk_2 T7
            obtain ⟨a0', a1'⟩ := blk_2 (keep hn3 At6)
            by_cases hqn : q < hs.length
            case pos =>
              have q0 : (0 : Int) ≤ (q : Int) := Int.natCast_nonneg _
              have q1 : (q : Int) < (hs.length : Int) := by omega
              by_cases hqi : q = i
              · subst hqi
                have hb : ((q : Int) != (q : Int)) = false := by simp
                go_wp2_with fail
                refine wp_region_quiet_below (by kernel_rfl) (by kernel_rfl) ?_
                repeat (first | go_big_quiet_step (fail))
                refine wpQuiet_nil ?_
                intro _ hw'
                obtain ⟨⟨dq, osq⟩, hw''⟩ := hw'
                subst hw''
                have J := below_regrown wn dq osq
                generalize grow (redrawn wn dq) osq = w8 at J ⊢
                go_wp2_with fail
                go_roundw
                case rel => exact ⟨q + 1, by omega, by simp, bw_trans hn3 J⟩
                case measure => simp [intOf]; omega
              · have hb : ((q : Int) != (i : Int)) = true := by simp; omega
                have hD7 := hD6.below hn3
                obtain ⟨gq, nq, cq, lq, hq1, hq2, hqc, nq3, nq8, hql, hqb⟩ := hD7.hole hqn
                have hokq : okV lq = true := by have := hokH.out q hqn; rw [hq2] at this; exact this
                have hiq : inV lq (px, py) = -1 := by
                  rw [inV_ok hokq hpB]
                  have := hout.out i q hlt hqn (fun e => hqi e.symm) j (by rw [ht2]; omega)
                  rw [ht2, hq2, hpp] at this; exact this
                have hPq := blk_pts hqb hql
                have HW : Hid (∀ d os, Calls Try.prog 15 #[.slice (some ⟨gq, 0, none⟩) nq cq, .agg #[.int .i64 px, .int .i64 py]] (grow (redrawn wn d) os) fun e W' => e = .returned (.int .i64 (-1)) ∧ Below (grow (redrawn wn d) os).heap.size (grow (redrawn wn d) os) W') := fun d os => by
                  have := in_any' (some ⟨gq, 0, none⟩) nq cq lq (px, py) (by omega) _ ((hPq.below (below_regrown wn d os)).grow (below_regrown wn d os).size)
                  rwa [hiq] at this
                obtain ⟨t2, t3⟩ := reg_2 T7
                obtain ⟨a2', a3'⟩ := reg_2 (keep hn3 At6)
                have hqc' := cell_regrown hqc
                clear hqc hiq
                go_wp2_with fail
                refine wp_region_quiet_below (by kernel_rfl) (by kernel_rfl) ?_
                repeat (first | go_big_quiet_step (first | (go_at_call 15; with_reducible exact Calls.regrown_of (HW.out _ _))))
                refine wpQuiet_nil ?_
                intro _ hw'
                obtain ⟨⟨dq, osq⟩, hw''⟩ := hw'
                subst hw''
                have J := below_regrown wn dq osq
                generalize grow (redrawn wn dq) osq = w8 at J ⊢
                go_wp2_with fail
                go_roundw
                case rel => exact ⟨q + 1, by omega, by simp, bw_trans hn3 J⟩
                case measure => simp [intOf]; omega
            case neg =>
              obtain rfl : q = hs.length := by omega
              go_wp2_with fail
              go_roundw
              case rel => exact ⟨j + 1, by omega, by simp, bw_trans n6 hn3⟩
              case measure => simp [intOf]; omega
        case neg =>
          obtain rfl : j = nt := by omega
          go_wp2_with fail
          go_roundw
          case rel => exact ⟨i + 1, by omega, by simp, bw_trans hnx hn2⟩
          case measure => simp [intOf]; omega
    case neg =>
      obtain rfl : i = hs.length := by omega
      have T4 := keep hnx T
      have zT4 := blk_lt T4
      have K4 := bw_trans K hnx
      have hD4 := hD.below hnx
      clear t0 t1
      obtain ⟨t0, t1⟩ := blk_2 T4
      obtain ⟨W5, hW5, B5, Row, Q5⟩ := boxes2 wo (.cells #[.slice (some ⟨g, 0, none⟩) n c] 23) (.cells #[.slice (some ⟨g, 0, none⟩) n c, .slice (some ⟨wo.heap.size, 0, none⟩) 1 1] 26)
      have hD5 := hD4.below B5
      have hPo5 := ((hPo.below (bw_trans hnx B5)).grow (bw_trans hnx B5).size)
      have hq1 := plt_one o2' hPo5 Row o2' hPo5
      have T5 := keep B5 T4
      have K5 := bw_trans K4 B5
      have hself := plV_self hokO
      by_cases h0 : hs.length = 0
      case pos =>
        have h0' : ((hs.length : Int) == 0) = true := by simp [h0]
        go_wp2_with fail
        rw [← hW5]
        refine (plateOk_any _ _ n c 1 1 l _ _ hq1).mono ?_
        rw [hself]
        rintro e w6 ⟨rfl, J⟩
        go_wp2_with fail
        go_ret
        exact ⟨rfl, bw_trans K5 J⟩
      case neg =>
        have h0' : ((hs.length : Int) == 0) = false := by rw [beq_eq_false_iff_ne]; omega
        obtain ⟨md, hmd⟩ : ∃ md : Nat, (len1 : Int).tmod (hs.length : Int) = (md : Int) := ⟨((len1 : Int).tmod (hs.length : Int)).toNat, by rw [Int.toNat_of_nonneg]; exact (tmod_bd (len1 : Int) (hs.length : Int) (by omega) (by omega)).1⟩
        have hmd2 : md < hs.length := by have := (tmod_bd (len1 : Int) (hs.length : Int) (by omega) (by omega)).2; omega
        have m0 : (0 : Int) ≤ (md : Int) := Int.natCast_nonneg _
        have m1 : (md : Int) < (hs.length : Int) := by omega
        have hnz : (hs.length = 0) = False := by simpa using h0
        obtain ⟨gt, nt, ct, lt, ht1, ht2, htc, nt3, nt8, htl, htb⟩ := hD5.hole hmd2
        have hokt : okV lt = true := by have := hokH.out md hmd2; rw [ht2] at this; exact this
        have har : arB l lt = true := by
          have := hL.ar ((hs.map LoopT.l)[md]?.getD []) (by rw [List.getElem?_eq_getElem (by simpa using hmd2), Option.getD_some]; exact List.getElem_mem _)
          rw [ht2] at this; exact this
        have htwo : plV l [lt, lt] = false := plV_twice hokt
        have htur : plV lt [l] = false := plV_turned hokO hokt har
        have hPt5 := blk_pts htb htl
        have htc' := cell_regrown htc
        go_wp2_with fail
        rw [← hW5]
        clear t0 t1 hW5
        obtain ⟨t0, t1⟩ := reg_2 T5
        refine wp_region_quiet_below (by kernel_rfl) (by kernel_rfl) ?_
        repeat (first | go_big_quiet_step (fail))
        refine wpQuiet_nil ?_
        intro _ hw'
        obtain ⟨⟨dq, osq⟩, hw''⟩ := hw'
        subst hw''
        have J := below_regrown W5 dq osq
        generalize grow (redrawn W5 dq) osq = w6 at J ⊢
        have T6 := keep J T5
        have Q6 := keep J Q5
        have K6 := bw_trans K5 J
        have hq6 := hq1.below J
        have hPt6 := (hPt5.below J).grow J.size
        have hPo6 := (hPo5.below J).grow J.size
        clear t0 t1 J
        obtain ⟨t0, t1⟩ := blk_2 T6
        obtain ⟨q0, q1⟩ := blk_2 Q6
        go_wp2_with fail
        refine (plateOk_any _ _ n c 1 1 l _ _ hq6).mono ?_
        rw [hself]
        rintro e w7 ⟨rfl, J⟩
        have T7 := keep J T6
        have K7 := bw_trans K6 J
        have hPt7 := (hPt6.below J).grow J.size
        have hPo7 := (hPo6.below J).grow J.size
        clear t0 t1 q0 q1 J
        obtain ⟨t0, t1⟩ := blk_2 T7
        have zT7 := blk_lt T7
        obtain ⟨W8, hW8, B8, Row8⟩ := boxes1' w7 (.cells #[.slice (some ⟨gt, 0, none⟩) nt ct, .slice (some ⟨gt, 0, none⟩) nt ct] 23)
        have hq8 := plt_two o2' ((hPo7.below B8).grow B8.size) Row8 (show nt ≤ 1048576 by omega) ((hPt7.below B8).grow B8.size)
        go_wp2_with fail
        rw [← hW8]
        clear hW8
        refine (plateOk_any _ _ n c 2 2 l _ _ hq8).mono ?_
        rw [htwo]
        rintro e w9 ⟨rfl, J⟩
        have J8 := bw_trans B8 J
        have T9 := keep J8 T7
        have K9 := bw_trans K7 J8
        have hPt9 := (hPt7.below J8).grow J8.size
        have hPo9 := (hPo7.below J8).grow J8.size
        clear t0 t1 J hq8 Row8
        obtain ⟨t0, t1⟩ := blk_2 T9
        have zT9 := blk_lt T9
        obtain ⟨W10, hW10, B10, Row10⟩ := boxes1' w9 (.cells #[.slice (some ⟨g, 0, none⟩) n c] 23)
        have hq10 := plt_one (show nt ≤ 1048576 by omega) ((hPt9.below B10).grow B10.size) Row10 o2' ((hPo9.below B10).grow B10.size)
        go_wp2_with fail
        rw [← hW10]
        clear hW10
        refine (plateOk_any _ _ nt ct 1 1 lt _ _ hq10).mono ?_
        rw [htur]
        rintro e w11 ⟨rfl, J⟩
        go_wp2_with fail
        go_ret
        exact ⟨rfl, bw_trans K9 (bw_trans B10 J)⟩
end Go.Proofs.Ythedlopfjlnogaa
namespace Go.Proofs.Ythedlopfjlnogaa
open Go.RowKit Go.Sort

/-- A loop in our own memory. -/
def LoopT.in (W : World) (t : LoopT) : Prop := 3 ≤ t.n ∧ t.n ≤ 8 ∧ t.l.length = t.n ∧ PtBlk W t.g t.c t.l t.n
theorem LoopT.ok.in {base : Nat} {W : World} {t : LoopT} (h : t.ok base W) : t.in W := ⟨h.1, h.2.1, h.2.2.1, h.2.2.2.2.2.2⟩
theorem LoopT.in.below {W W' : World} {t : LoopT} (h : t.in W) (J : Below W.heap.size W W') : t.in W' := ⟨h.1, h.2.1, h.2.2.1, h.2.2.2.below J⟩
theorem LoopT.in.only {r : Nat} {W W' : World} {t : LoopT} (h : t.in W) (O : Only r W W') (hr : t.g ≠ r) : t.in W' := ⟨h.1, h.2.1, h.2.2.1, blk_only h.2.2.2 O hr⟩
theorem LoopT.in.grown {W W' : World} {t : LoopT} {row : Option Nat} (h : t.in W) (hg : W.grownBy W' row) (hne : some t.g ≠ row) : t.in W' := ⟨h.1, h.2.1, h.2.2.1, blk_grown h.2.2.2 hg hne⟩
theorem LoopT.in.ne_own {W : World} {t : LoopT} {base n : Nat} {v : Value} {xs : List Value} (h : t.in W) (ho : W.ownsRow base 23 1 v n xs) : some t.g ≠ v.ownBlock := by
  intro e
  rcases ho.2 with ⟨e1, e2⟩ | ⟨g', c', cur', e1, hb, hg, _⟩
  · subst e1; simp [Value.ownBlock] at e
  · subst e1
    obtain ⟨cur, hc, _⟩ := h.2.2.2
    have e' : t.g = g' := Option.some.inj e
    rw [e', hg] at hc; simp at hc
theorem LoopT.in.ne_box {W : World} {t : LoopT} {b : Nat} {cs : Array Value} (h : t.in W) (hL : Lies b cs 26 W) : t.g ≠ b := by
  intro e
  obtain ⟨cur, hc, _⟩ := h.2.2.2
  unfold Lies at hL
  rw [e, hL] at hc; simp at hc
theorem own_ne_box {W : World} {b base n : Nat} {cs : Array Value} {v : Value} {xs : List Value} (ho : W.ownsRow base 23 1 v n xs) (hL : Lies b cs 26 W) : v.ownBlock ≠ some b := by
  intro e
  rcases ho.2 with ⟨e1, e2⟩ | ⟨g', c', cur', e1, hb, hg, _⟩
  · subst e1; simp [Value.ownBlock] at e
  · subst e1
    have e' : g' = b := Option.some.inj e
    unfold Lies at hL
    rw [e', hL] at hg; simp at hg
/-- A plate of loops in our own memory. -/
def PlN (base : Nat) (W : World) (o : LoopT) (hv : Value) (hs : List LoopT) : Prop := o.in W ∧ W.ownsRow base 23 1 hv hs.length (hs.map LoopT.v) ∧ ∀ t ∈ hs, t.in W
theorem PlN.below {base : Nat} {W W' : World} {o : LoopT} {hv : Value} {hs : List LoopT} (h : PlN base W o hv hs) (J : Below W.heap.size W W') : PlN base W' o hv hs := ⟨h.1.below J, own_below h.2.1 J, fun t ht => (h.2.2 t ht).below J⟩
theorem PlN.only {base r : Nat} {W W' : World} {o : LoopT} {hv : Value} {hs : List LoopT} (h : PlN base W o hv hs) (O : Only r W W') (ho : o.g ≠ r) (hr : hv.ownBlock ≠ some r) (ht : ∀ t ∈ hs, t.g ≠ r) : PlN base W' o hv hs := ⟨h.1.only O ho, own_only' h.2.1 O hr, fun t hh => (h.2.2 t hh).only O (ht t hh)⟩
theorem PlN.mono {base base' : Nat} {W : World} {o : LoopT} {hv : Value} {hs : List LoopT} (h : PlN base W o hv hs) (hb : base' ≤ base) : PlN base' W o hv hs := ⟨h.1, own_mono h.2.1 hb, h.2.2⟩
theorem PlN.plt {base : Nat} {W : World} {o : LoopT} {hv : Value} {hs : List LoopT} (h : PlN base W o hv hs) : ∃ ah ch, hv = .slice ah hs.length ch ∧ Plt W (some ⟨o.g, 0, none⟩) o.n ah hs.length o.l (hs.map LoopT.l) := by
  obtain ⟨⟨h1, h2, h3, h7⟩, hr, ht⟩ := h
  rcases hr.2 with ⟨e1, e2⟩ | ⟨gh, ch, cur, e1, hb, hg, _⟩
  · obtain rfl : hs = [] := List.eq_nil_of_length_eq_zero e2
    exact ⟨none, 0, e1, by omega, blk_pts h7 h3, rfl, fun _ => none, fun _ => 0, fun _ => 0, .inl rfl, fun j hj => by simp at hj⟩
  · subst e1
    refine ⟨_, _, rfl, by omega, blk_pts h7 h3, by simp, fun j => some ⟨(hs[j]?.map LoopT.g).getD 0, 0, none⟩, fun j => (hs[j]?.map LoopT.n).getD 0, fun j => (hs[j]?.map LoopT.c).getD 0, .inr ⟨gh, 0, rfl, (hr.lt gh rfl).2, fun j hj => ?_⟩, fun j hj => ?_⟩
    · have := own_news hr (j := j) (u := (hs[j]).v) (by simp [hj])
      simp only [List.getElem?_eq_getElem hj, Option.map_some, Option.getD_some]
      rw [show ((⟨gh, 0, none⟩ : Addr).add j) = ⟨gh, j, none⟩ by unfold Addr.add; split <;> simp_all] at this
      rw [Nat.zero_add]; exact this
    · obtain ⟨k1, k2, k3, k7⟩ := ht hs[j] (List.getElem_mem hj)
      simp only [List.getElem?_map, List.getElem?_eq_getElem hj, Option.map_some, Option.getD_some]
      exact ⟨by omega, blk_pts k7 k3⟩
set_option maxRecDepth 100000 in
set_option maxHeartbeats 8000000 in
theorem luPlate_ok (f : P2 → P2) (sw : Bool) (base : Nat) (o : LoopT) (gh ch : Nat) (hs : List LoopT) (w : World) (hD : PlD base w o (.slice (some ⟨gh, 0, none⟩) hs.length ch) hs)
    (hf : ∀ t, t = o ∨ t ∈ hs → ∀ i, i < t.n → ∀ w, Calls Try.prog 80 #[.agg #[.int .i64 (ptAt t.l i).1, .int .i64 (ptAt t.l i).2], .bool sw] w fun e w' => e = .returned (.agg #[.int .i64 (f (ptAt t.l i)).1, .int .i64 (f (ptAt t.l i)).2]) ∧ Below w.heap.size w w') :
    Calls Try.prog 14 #[.agg #[o.v, .slice (some ⟨gh, 0, none⟩) hs.length ch], .bool sw] w fun e w' => ∃ (o' : LoopT) (hv : Value) (hs' : List LoopT), e = .returned (.agg #[o'.v, hv]) ∧ PlN w.heap.size w' o' hv hs' ∧ o'.l = o.l.map f ∧ hs'.map LoopT.l = hs.map (fun t => t.l.map f) ∧ Below w.heap.size w w' := by
  obtain ⟨i0, hi0, hz0, hz1, hz2⟩ := info_parts Try.infoPts
  have hmx : Try.prog.follows .mixedOrders = true := by kernel_rfl
  have hfo := hf o (.inl rfl)
  have HF : Hid (∀ t, t ∈ hs → ∀ i, i < t.n → ∀ w, Calls Try.prog 80 #[.agg #[.int .i64 (ptAt t.l i).1, .int .i64 (ptAt t.l i).2], .bool sw] w fun e w' => e = .returned (.agg #[.int .i64 (f (ptAt t.l i)).1, .int .i64 (f (ptAt t.l i)).2]) ∧ Below w.heap.size w w') := fun t ht => hf t (.inr ht)
  clear hf
  obtain ⟨g, n, c, l⟩ := o
  obtain ⟨W, hW, BW, T, Z⟩ := boxes2 w (.cells #[.slice (some ⟨g, 0, none⟩) n c, .slice (some ⟨gh, 0, none⟩) hs.length ch] 26) (.cells #[.slice none 0 0, .slice none 0 0] 26)
  have hDW := hD.below BW
  obtain ⟨o1, o2, o3, o4, o5, o6, o7⟩ := hDW.1
  show Calls Try.prog 14 #[.agg #[.slice (some ⟨g, 0, none⟩) n c, .slice (some ⟨gh, 0, none⟩) hs.length ch], .bool sw] w _
  go_enter Try.func14, Try.ntmps14
  go_wp2_with fail
  rw [← hW]
  clear hW
  refine (luOver_ok f sw g n c l _ hfo o7 o3 (by show 1 ≤ n; have : 3 ≤ n := o1; omega) (by show n ≤ 100; have : n ≤ 8 := o2; omega)).mono ?_
  have o3' : l.length = n := o3
  have o1' : 3 ≤ n := o1
  have o2' : n ≤ 8 := o2
  have hln : (l.map f).length = n := by simp [o3']
  rintro e w1 ⟨g1, c1, rfl, hb1, J1⟩
  rw [hln] at hb1
  rw [hln]
  have K1 := bw_trans BW J1
  replace T := keep J1 T
  replace Z := keep J1 Z
  have hD1 := hDW.below J1
  have zT := blk_lt T
  have zZ := blk_lt Z
  have zg1 := hb1.lt
  have Bq : Below w1.heap.size w1 (w1.alloc (.cells #[.slice (some ⟨g1, 0, none⟩) n c1, .slice none 0 0] 26)) := (by repeat (first | exact bw_refl _ | assumption | apply bw_drewN | apply bw_drew | apply bw_alloc | refine bw_set ?_ (by simp) _))
  have Lp : Lies w1.heap.size #[.slice (some ⟨g1, 0, none⟩) n c1, .slice none 0 0] 26 (w1.alloc (.cells #[.slice (some ⟨g1, 0, none⟩) n c1, .slice none 0 0] 26)) := Lies.new w1 _ _
  have hN0 : PlN w1.heap.size (w1.alloc (.cells #[.slice (some ⟨g1, 0, none⟩) n c1, .slice none 0 0] 26)) ⟨g1, n, c1, l.map f⟩ (.slice none 0 0) [] := ⟨LoopT.in.below ⟨o1', o2', hln, hb1⟩ Bq, ⟨rfl, .inl ⟨rfl, rfl⟩⟩, fun t ht => by simp at ht⟩
  have hghw : gh < w.heap.size := (hD.2.2.1.lt gh rfl).2
  clear BW J1 hDW hD o7
  go_wp2_with fail
  go_loopw [6] (fun i wr => ∃ (k : Nat) (hv : Value) (hs' : List LoopT), k ≤ hs.length ∧ i = .int .i64 k ∧ Lies w1.heap.size #[.slice (some ⟨g1, 0, none⟩) n c1, hv] 26 wr ∧ PlN w1.heap.size wr ⟨g1, n, c1, l.map f⟩ hv hs' ∧ hs'.length = k ∧ hs'.map LoopT.l = (hs.take k).map (fun t => t.l.map f) ∧ Below w1.heap.size w1 wr) (fun i _ => hs.length - (intOf i).toNat)
  case atStart => exact ⟨0, _, [], Nat.zero_le _, rfl, Lp, hN0, rfl, rfl, Bq⟩
  case round =>
    obtain ⟨k, hv, hs', hk, rfl, Lo, hN, hkl, hmap, hnx⟩ := hrel
    have T2 := keep hnx T
    have Z2 := keep hnx Z
    obtain ⟨t0, t1⟩ := blk_2 T2
    have K2 := bw_trans K1 hnx
    by_cases hlt : k < hs.length
    case neg =>
      obtain rfl : k = hs.length := by omega
      rw [List.take_of_length_le (Nat.le_refl _)] at hmap
      obtain ⟨d0, d1, _, _⟩ := lies2 Lo
      obtain ⟨y0, y1, f0, f1⟩ := lies2 (b := w.heap.size + 1) Z2
      obtain ⟨ah, ch', rfl⟩ : ∃ ah ch', hv = .slice ah hs.length ch' := by have := own_slice hN.2.1; rwa [hkl] at this
      have Z3 := setB2 (u0 := .slice (some ⟨g1, 0, none⟩) n c1) (u1 := .slice ah hs.length ch') Z2
      obtain ⟨v0, v1, _, _⟩ := blk2 Z3
      go_wp2_with fail
      refine bodyPost_ret (v := .agg #[.slice (some ⟨g1, 0, none⟩) n c1, .slice ah hs.length ch']) (by simp [results, Try.results14, go_sem, v0, v1]) rfl ?_
      have Q1 : Only (w.heap.size + 1) wr ((wr.setCell ⟨w.heap.size + 1, 0, none⟩ (.slice (some ⟨g1, 0, none⟩) n c1)).setCell ⟨w.heap.size + 1, 1, none⟩ (.slice ah hs.length ch')) := ((Only.refl (w.heap.size + 1) wr).set (.inl rfl) _).set (.inl rfl) _
      have hne : ∀ t : LoopT, t.in wr → t.g ≠ w.heap.size + 1 := fun t ht => ht.ne_box (cs := #[.slice none 0 0, .slice none 0 0]) Z2
      refine ⟨⟨g1, n, c1, l.map f⟩, _, hs', rfl, (hN.only Q1 (hne _ hN.1) ?_ (fun t ht => hne t (hN.2.2 t ht))).mono (by omega), rfl, hmap, (K2.setCell (p := ⟨w.heap.size + 1, 0, none⟩) (Nat.le_succ _) _).setCell (p := ⟨w.heap.size + 1, 1, none⟩) (Nat.le_succ _) _⟩
      exact own_ne_box hN.2.1 (cs := #[.slice none 0 0, .slice none 0 0]) Z2
    case pos =>
      obtain ⟨gt, nt, ct, lt, ht1, ht2, htc, nt3, nt8, htl, htb⟩ := (hD1.below hnx).hole hlt
      have i0' : (0 : Int) ≤ (k : Int) := Int.natCast_nonneg _
      have i1' : (k : Int) < (hs.length : Int) := by omega
      have hcall := luOver_ok f sw gt nt ct lt wr.drew (HF.out ⟨gt, nt, ct, lt⟩ (List.mem_of_getElem? ht1)) (htb.below (bw_drew (bw_refl _))) htl (by omega) (by omega)
      obtain ⟨d0, d1, f0, f1⟩ := lies2 Lo
      obtain ⟨d0, d1, f0, f1⟩ := lies2 Lo
      obtain ⟨d0, d1, f0, f1⟩ := lies2 Lo
      obtain ⟨d0, d1, f0, f1⟩ := lies2 Lo
      obtain ⟨d0, d1, f0, f1⟩ := lies2 Lo
      have hkk : hs'.length ≤ 4 := by rw [hkl]; have := hD1.2.1; omega
      obtain ⟨d0, d1, f0, f1⟩ := lies2 Lo
      have hmax : hs'.length + 1 ≤ maxLen := by simp [maxLen]; omega
      have hlt3 : (lt.map f).length = nt := by simp [htl]
      have zPB : w.heap.size < wr.heap.size := blk_lt T2
      have zGHw : gh < w.heap.size := hghw
      have zGH : gh < wr.heap.size := by omega
      have zw1 := hnx.size
      have k4 : (k : Int) ≤ 4 := by have := hD1.2.1; omega
      have Hkl : Hid (hs'.length = k) := hkl
      clear t0 hkl
      go_wp2_with fail
      refine wp_region_held (S := (fun w' : World => w'.cell? ⟨w.heap.size, 1, none⟩ = some (.slice (some ⟨gh, 0, none⟩) hs.length ch) ∧ w'.cell? ⟨gh, k, none⟩ = some (.slice (some ⟨gt, 0, none⟩) nt ct))) hmx ?_
      have hS0 : (fun w' : World => w'.cell? ⟨w.heap.size, 1, none⟩ = some (.slice (some ⟨gh, 0, none⟩) hs.length ch) ∧ w'.cell? ⟨gh, k, none⟩ = some (.slice (some ⟨gt, 0, none⟩) nt ct)) wr.drew := ⟨t1, htc⟩
      refine wpAnyH_take (i := 0) (v := .pointer (some ⟨w1.heap.size, 1, none⟩)) rfl (by kernel_rfl) (by kernel_rfl) (by kernel_rfl) (fun _ _ _ h => h) (Or.inl ⟨by rfl, by rintro w' ⟨s1, s2⟩; go_simp⟩) hS0 ?_
      refine wpAnyH_take (i := 2) (v := .pointer (some ⟨w.heap.size, 1, none⟩)) rfl (by kernel_rfl) (by kernel_rfl) (by kernel_rfl) (fun _ _ _ h => h) (Or.inl ⟨by rfl, by rintro w' ⟨s1, s2⟩; go_simp⟩) hS0 ?_
      refine wpAnyH_take (i := 4) (v := .int .i64 (k : Int)) rfl (by kernel_rfl) (by kernel_rfl) (by kernel_rfl) (fun _ _ _ h => h) (Or.inl ⟨by rfl, by rintro w' ⟨s1, s2⟩; go_simp⟩) hS0 ?_
      refine wpAnyH_take (i := 7) (v := .bool sw) rfl (by kernel_rfl) (by kernel_rfl) (by kernel_rfl) (fun _ _ _ h => h) (Or.inl ⟨by rfl, by rintro w' ⟨s1, s2⟩; go_simp⟩) hS0 ?_
      refine wpAnyH_take (i := 3) (v := .slice (some ⟨gh, 0, none⟩) hs.length ch) rfl (by kernel_rfl) (by kernel_rfl) (by kernel_rfl) (fun _ _ _ h => h) (Or.inl ⟨by rfl, by rintro w' ⟨s1, s2⟩; go_simp⟩) hS0 ?_
      refine wpAnyH_take (i := 5) (v := .pointer (some ⟨gh, k, none⟩)) rfl (by kernel_rfl) (by kernel_rfl) (by kernel_rfl) (fun _ _ _ h => h) (Or.inl ⟨by rfl, by rintro w' ⟨s1, s2⟩; go_simp⟩) hS0 ?_
      refine wpAnyH_take (i := 6) (v := .slice (some ⟨gt, 0, none⟩) nt ct) rfl (by kernel_rfl) (by kernel_rfl) (by kernel_rfl) (fun _ _ _ h => h) (Or.inl ⟨by rfl, by rintro w' ⟨s1, s2⟩; go_simp⟩) hS0 ?_
      refine wpAnyH_all (rs := [1, 8]) (by kernel_rfl) (by simp) ?_
      intro i hi
      have hi' : i = 1 ∨ i = 8 := by simpa using hi
      clear hi
      rcases hi' with rfl | rfl
      · skip
        refine YieldsIf.wpOp (S := fun w' => w' = wr.drew) (v := hv) rfl (Or.inl ⟨by rfl, by rintro w' rfl; go_simp⟩) rfl ⟨hS0, ?_⟩
        refine wpAnyH_all (rs := [8]) (by kernel_rfl) (by simp) ?_
        intro i hi
        obtain rfl : i = 8 := by simpa using hi
        refine wpOp_now rfl (by rfl) ?_
        go_simp
        refine hcall.mono ?_
        rintro e w3 ⟨g3, c3, rfl, hb3, J3⟩
        obtain ⟨n3, l3, hn3, hl3, hin3⟩ : ∃ n3 l3, (lt.map f).length = n3 ∧ lt.map f = l3 ∧ LoopT.in w3 ⟨g3, n3, c3, l3⟩ := ⟨nt, lt.map f, hlt3, rfl, nt3, nt8, hlt3, by rw [hlt3] at hb3; exact hb3⟩
        rw [hn3]
        have PB3 := (show Lies w.heap.size #[.slice (some ⟨g, 0, none⟩) n c, .slice (some ⟨gh, 0, none⟩) hs.length ch] 26 wr.drew from T2).below J3
        have Lo3 := (show Lies w1.heap.size #[.slice (some ⟨g1, 0, none⟩) n c1, hv] 26 wr.drew from Lo).below J3
        have hN3 := (show PlN w1.heap.size wr.drew ⟨g1, n, c1, l.map f⟩ hv hs' from hN.below (bw_drew (bw_refl _))).below J3
        have hS3 : (fun w' : World => w'.cell? ⟨w.heap.size, 1, none⟩ = some (.slice (some ⟨gh, 0, none⟩) hs.length ch) ∧ w'.cell? ⟨gh, k, none⟩ = some (.slice (some ⟨gt, 0, none⟩) nt ct)) w3 := ⟨(J3.cell (p := ⟨w.heap.size, 1, none⟩) zPB).trans t1, (J3.cell (p := ⟨gh, k, none⟩) zGH).trans htc⟩
        obtain ⟨d03, d13, f03, f13⟩ := lies2 Lo3
        have zo3 := Lo3.lt
        have zwr3 := J3.size
        refine ⟨hS3, ?_⟩
        refine wpAnyH_all (rs := [9]) (by kernel_rfl) (by simp) ?_
        intro i hi
        obtain rfl : i = 9 := by simpa using hi
        have B34 : Below w3.heap.size w3 (w3.alloc (.cells #[.slice (some ⟨g3, 0, none⟩) n3 c3] 23)) := (by repeat (first | exact bw_refl _ | assumption | apply bw_drewN | apply bw_drew | apply bw_alloc | refine bw_set ?_ (by simp) _))
        have hS4 : (fun w' : World => w'.cell? ⟨w.heap.size, 1, none⟩ = some (.slice (some ⟨gh, 0, none⟩) hs.length ch) ∧ w'.cell? ⟨gh, k, none⟩ = some (.slice (some ⟨gt, 0, none⟩) nt ct)) (w3.alloc (.cells #[.slice (some ⟨g3, 0, none⟩) n3 c3] 23)) := ⟨(B34.cell (p := ⟨w.heap.size, 1, none⟩) (show w.heap.size < w3.heap.size by omega)).trans hS3.1, (B34.cell (p := ⟨gh, k, none⟩) (show gh < w3.heap.size by omega)).trans hS3.2⟩
        refine wpOp_now rfl (by rfl) ?_
        go_simp
        refine wpAnyH_all (rs := [10]) (by kernel_rfl) (by simp) ?_
        intro i hi
        obtain rfl : i = 10 := by simpa using hi
        refine wpOp_now rfl (by rfl) ?_
        refine wp_append_lies _ _ _ _ (by rfl) w1.heap.size 23 i0 _ 1 24 Try.underlying24 hi0 hz0 hz1 hz2 rfl (by omega) _ hs'.length _ (by rfl) (hN3.2.1.alloc _) ⟨w3.heap.size, 0, none⟩ 1 1 [.slice (some ⟨g3, 0, none⟩) n3 c3] (by rfl) (by rfl) (World.news_of_block (cs := #[.slice (some ⟨g3, 0, none⟩) n3 c3]) (t := 23) (fr := (0, 0)) (heap_alloc_new w3 _)) (by simp [Value.oneCell']) (by omega) hmax (by omega) (by simp; omega) (w3.heap.size + 1) (by simp) ?_
        intro gg cg w5 hown5 hgr5 hat5 hlt5
        have Lo5 := lies_grown (Lo3.alloc _) hgr5 (fun e => own_ne_box hN3.2.1 Lo3 e.symm)
        have hS5 : (fun w' : World => w'.cell? ⟨w.heap.size, 1, none⟩ = some (.slice (some ⟨gh, 0, none⟩) hs.length ch) ∧ w'.cell? ⟨gh, k, none⟩ = some (.slice (some ⟨gt, 0, none⟩) nt ct)) w5 := ⟨(World.cell?_of_block (a := ⟨w.heap.size, 1, none⟩) (hgr5.block w.heap.size (by simp; omega) (fun e => own_ne_box hN3.2.1 PB3 e.symm))).trans hS4.1, (World.cell?_of_block (a := ⟨gh, k, none⟩) (hgr5.block gh (by simp; omega) (fun e => by have := (hN3.2.1.lt _ e.symm).1; omega))).trans hS4.2⟩
        refine ⟨hS5, ?_⟩
        simp only [Act.put, List.setIfInBounds_toArray]
        refine wpAnyH_take (i := 11) (v := .pointer (some ⟨w1.heap.size, 1, none⟩)) rfl (by kernel_rfl) (by kernel_rfl) (by kernel_rfl) (fun _ _ _ h => h) (Or.inl ⟨by rfl, by rintro w' ⟨s1, s2⟩; go_simp⟩) hS5 ?_
        refine wpAnyH_all (rs := [12]) (by kernel_rfl) (by simp) ?_
        intro i hi
        obtain rfl : i = 12 := by simpa using hi
        obtain ⟨d05, d15, f05, f15⟩ := lies2 Lo5
        have O5 : Only w1.heap.size w5 (w5.setCell ⟨w1.heap.size, 1, none⟩ (.slice (some ⟨gg, 0, none⟩) (hs'.length + 1) cg)) := (Only.refl (w1.heap.size) w5).set (p := ⟨w1.heap.size, 1, none⟩) (.inl rfl) _
        have hggn : gg ≠ w1.heap.size := fun e => own_ne_box hown5 Lo5 (by rw [← e]; rfl)
        have hS6 : (fun w' : World => w'.cell? ⟨w.heap.size, 1, none⟩ = some (.slice (some ⟨gh, 0, none⟩) hs.length ch) ∧ w'.cell? ⟨gh, k, none⟩ = some (.slice (some ⟨gt, 0, none⟩) nt ct)) (w5.setCell ⟨w1.heap.size, 1, none⟩ (.slice (some ⟨gg, 0, none⟩) (hs'.length + 1) cg)) := ⟨(World.cell?_of_block (a := ⟨w.heap.size, 1, none⟩) (O5.block w.heap.size (by omega) (by have := hgr5.size; simp at this; omega))).trans hS5.1, (World.cell?_of_block (a := ⟨gh, k, none⟩) (O5.block gh (by omega) (by have := hgr5.size; simp at this; omega))).trans hS5.2⟩
        refine wpOp_now rfl (by rfl) ?_
        go_simp
        refine wpAnyH_done (by kernel_rfl) ?_ _
        simp only [Exit.then, Exit.inBlock]
        have keep5 : ∀ t : LoopT, t.in w3 → t.in (w5.setCell ⟨w1.heap.size, 1, none⟩ (.slice (some ⟨gg, 0, none⟩) (hs'.length + 1) cg)) := fun t ht => by
          have h5 := (ht.below B34).grown hgr5 (ht.ne_own hN3.2.1)
          exact h5.only O5 (h5.ne_box Lo5)
        have hr5 := own_only' hown5 O5 (fun e => hggn (Option.some.inj e))
        have hN4 : PlN w1.heap.size (w5.setCell ⟨w1.heap.size, 1, none⟩ (.slice (some ⟨gg, 0, none⟩) (hs'.length + 1) cg)) ⟨g1, n, c1, l.map f⟩ (.slice (some ⟨gg, 0, none⟩) (hs'.length + 1) cg) (hs' ++ [(⟨g3, n3, c3, l3⟩ : LoopT)]) := by
          refine ⟨keep5 _ hN3.1, by simpa [LoopT.v] using hr5, fun t ht => ?_⟩
          rcases List.mem_append.1 ht with h | h
          · exact keep5 t (hN3.2.2 t h)
          · obtain rfl : t = ⟨g3, n3, c3, l3⟩ := by simpa using h
            exact keep5 _ hin3
        have L4 := lies_set1 (z := .slice (some ⟨gg, 0, none⟩) (hs'.length + 1) cg) Lo5
        have J5 := (((bw_trans hnx.drew J3).alloc (by omega) (.cells #[.slice (some ⟨g3, 0, none⟩) n3 c3] 23)).grown hgr5 (by simp; omega) (fun j e => by have := (hN3.2.1.lt j e).1; omega)).setCell (p := ⟨w1.heap.size, 1, none⟩) (Nat.le_refl _) (.slice (some ⟨gg, 0, none⟩) (hs'.length + 1) cg)
        clear hown5 hgr5 hat5 hlt5 keep5 hr5 O5 hN3 Lo3 Lo5 d03 d13 f03 f13 d05 d15 f05 f15 B34 hS3 hS4 hS5 hS6
        generalize w5.setCell ⟨w1.heap.size, 1, none⟩ (.slice (some ⟨gg, 0, none⟩) (hs'.length + 1) cg) = x4 at *
        obtain ⟨d0, d1, f0, f1⟩ := lies2 L4
        go_wp2_with fail
        go_roundw
        case rel =>
          refine ⟨k + 1, _, hs' ++ [(⟨g3, n3, c3, l3⟩ : LoopT)], by omega, by simp, L4, hN4, by simp [Hkl.out], ?_, J5⟩
          rw [List.map_append, hmap, List.take_add_one, ht1]
          simp [← hl3]
        case measure => simp [intOf]; omega
      · skip
        refine wpOp_now rfl (by rfl) ?_
        go_simp
        refine hcall.mono ?_
        rintro e w3 ⟨g3, c3, rfl, hb3, J3⟩
        obtain ⟨n3, l3, hn3, hl3, hin3⟩ : ∃ n3 l3, (lt.map f).length = n3 ∧ lt.map f = l3 ∧ LoopT.in w3 ⟨g3, n3, c3, l3⟩ := ⟨nt, lt.map f, hlt3, rfl, nt3, nt8, hlt3, by rw [hlt3] at hb3; exact hb3⟩
        rw [hn3]
        have PB3 := (show Lies w.heap.size #[.slice (some ⟨g, 0, none⟩) n c, .slice (some ⟨gh, 0, none⟩) hs.length ch] 26 wr.drew from T2).below J3
        have Lo3 := (show Lies w1.heap.size #[.slice (some ⟨g1, 0, none⟩) n c1, hv] 26 wr.drew from Lo).below J3
        have hN3 := (show PlN w1.heap.size wr.drew ⟨g1, n, c1, l.map f⟩ hv hs' from hN.below (bw_drew (bw_refl _))).below J3
        have hS3 : (fun w' : World => w'.cell? ⟨w.heap.size, 1, none⟩ = some (.slice (some ⟨gh, 0, none⟩) hs.length ch) ∧ w'.cell? ⟨gh, k, none⟩ = some (.slice (some ⟨gt, 0, none⟩) nt ct)) w3 := ⟨(J3.cell (p := ⟨w.heap.size, 1, none⟩) zPB).trans t1, (J3.cell (p := ⟨gh, k, none⟩) zGH).trans htc⟩
        obtain ⟨d03, d13, f03, f13⟩ := lies2 Lo3
        have zo3 := Lo3.lt
        have zwr3 := J3.size
        refine ⟨hS3, ?_⟩
        refine wpAnyH_all (rs := [1, 9]) (by kernel_rfl) (by simp) ?_
        intro i hi
        have hi' : i = 1 ∨ i = 9 := by simpa using hi
        clear hi
        rcases hi' with rfl | rfl
        · skip
          refine YieldsIf.wpOp (S := fun w' => w' = w3) (v := hv) rfl (Or.inl ⟨by rfl, by rintro w' rfl; go_simp⟩) rfl ⟨hS3, ?_⟩
          refine wpAnyH_all (rs := [9]) (by kernel_rfl) (by simp) ?_
          intro i hi
          obtain rfl : i = 9 := by simpa using hi
          have B34 : Below w3.heap.size w3 (w3.alloc (.cells #[.slice (some ⟨g3, 0, none⟩) n3 c3] 23)) := (by repeat (first | exact bw_refl _ | assumption | apply bw_drewN | apply bw_drew | apply bw_alloc | refine bw_set ?_ (by simp) _))
          have hS4 : (fun w' : World => w'.cell? ⟨w.heap.size, 1, none⟩ = some (.slice (some ⟨gh, 0, none⟩) hs.length ch) ∧ w'.cell? ⟨gh, k, none⟩ = some (.slice (some ⟨gt, 0, none⟩) nt ct)) (w3.alloc (.cells #[.slice (some ⟨g3, 0, none⟩) n3 c3] 23)) := ⟨(B34.cell (p := ⟨w.heap.size, 1, none⟩) (show w.heap.size < w3.heap.size by omega)).trans hS3.1, (B34.cell (p := ⟨gh, k, none⟩) (show gh < w3.heap.size by omega)).trans hS3.2⟩
          refine wpOp_now rfl (by rfl) ?_
          go_simp
          refine wpAnyH_all (rs := [10]) (by kernel_rfl) (by simp) ?_
          intro i hi
          obtain rfl : i = 10 := by simpa using hi
          refine wpOp_now rfl (by rfl) ?_
          refine wp_append_lies _ _ _ _ (by rfl) w1.heap.size 23 i0 _ 1 24 Try.underlying24 hi0 hz0 hz1 hz2 rfl (by omega) _ hs'.length _ (by rfl) (hN3.2.1.alloc _) ⟨w3.heap.size, 0, none⟩ 1 1 [.slice (some ⟨g3, 0, none⟩) n3 c3] (by rfl) (by rfl) (World.news_of_block (cs := #[.slice (some ⟨g3, 0, none⟩) n3 c3]) (t := 23) (fr := (0, 0)) (heap_alloc_new w3 _)) (by simp [Value.oneCell']) (by omega) hmax (by omega) (by simp; omega) (w3.heap.size + 1) (by simp) ?_
          intro gg cg w5 hown5 hgr5 hat5 hlt5
          have Lo5 := lies_grown (Lo3.alloc _) hgr5 (fun e => own_ne_box hN3.2.1 Lo3 e.symm)
          have hS5 : (fun w' : World => w'.cell? ⟨w.heap.size, 1, none⟩ = some (.slice (some ⟨gh, 0, none⟩) hs.length ch) ∧ w'.cell? ⟨gh, k, none⟩ = some (.slice (some ⟨gt, 0, none⟩) nt ct)) w5 := ⟨(World.cell?_of_block (a := ⟨w.heap.size, 1, none⟩) (hgr5.block w.heap.size (by simp; omega) (fun e => own_ne_box hN3.2.1 PB3 e.symm))).trans hS4.1, (World.cell?_of_block (a := ⟨gh, k, none⟩) (hgr5.block gh (by simp; omega) (fun e => by have := (hN3.2.1.lt _ e.symm).1; omega))).trans hS4.2⟩
          refine ⟨hS5, ?_⟩
          simp only [Act.put, List.setIfInBounds_toArray]
          refine wpAnyH_take (i := 11) (v := .pointer (some ⟨w1.heap.size, 1, none⟩)) rfl (by kernel_rfl) (by kernel_rfl) (by kernel_rfl) (fun _ _ _ h => h) (Or.inl ⟨by rfl, by rintro w' ⟨s1, s2⟩; go_simp⟩) hS5 ?_
          refine wpAnyH_all (rs := [12]) (by kernel_rfl) (by simp) ?_
          intro i hi
          obtain rfl : i = 12 := by simpa using hi
          obtain ⟨d05, d15, f05, f15⟩ := lies2 Lo5
          have O5 : Only w1.heap.size w5 (w5.setCell ⟨w1.heap.size, 1, none⟩ (.slice (some ⟨gg, 0, none⟩) (hs'.length + 1) cg)) := (Only.refl (w1.heap.size) w5).set (p := ⟨w1.heap.size, 1, none⟩) (.inl rfl) _
          have hggn : gg ≠ w1.heap.size := fun e => own_ne_box hown5 Lo5 (by rw [← e]; rfl)
          have hS6 : (fun w' : World => w'.cell? ⟨w.heap.size, 1, none⟩ = some (.slice (some ⟨gh, 0, none⟩) hs.length ch) ∧ w'.cell? ⟨gh, k, none⟩ = some (.slice (some ⟨gt, 0, none⟩) nt ct)) (w5.setCell ⟨w1.heap.size, 1, none⟩ (.slice (some ⟨gg, 0, none⟩) (hs'.length + 1) cg)) := ⟨(World.cell?_of_block (a := ⟨w.heap.size, 1, none⟩) (O5.block w.heap.size (by omega) (by have := hgr5.size; simp at this; omega))).trans hS5.1, (World.cell?_of_block (a := ⟨gh, k, none⟩) (O5.block gh (by omega) (by have := hgr5.size; simp at this; omega))).trans hS5.2⟩
          refine wpOp_now rfl (by rfl) ?_
          go_simp
          refine wpAnyH_done (by kernel_rfl) ?_ _
          simp only [Exit.then, Exit.inBlock]
          have keep5 : ∀ t : LoopT, t.in w3 → t.in (w5.setCell ⟨w1.heap.size, 1, none⟩ (.slice (some ⟨gg, 0, none⟩) (hs'.length + 1) cg)) := fun t ht => by
            have h5 := (ht.below B34).grown hgr5 (ht.ne_own hN3.2.1)
            exact h5.only O5 (h5.ne_box Lo5)
          have hr5 := own_only' hown5 O5 (fun e => hggn (Option.some.inj e))
          have hN4 : PlN w1.heap.size (w5.setCell ⟨w1.heap.size, 1, none⟩ (.slice (some ⟨gg, 0, none⟩) (hs'.length + 1) cg)) ⟨g1, n, c1, l.map f⟩ (.slice (some ⟨gg, 0, none⟩) (hs'.length + 1) cg) (hs' ++ [(⟨g3, n3, c3, l3⟩ : LoopT)]) := by
            refine ⟨keep5 _ hN3.1, by simpa [LoopT.v] using hr5, fun t ht => ?_⟩
            rcases List.mem_append.1 ht with h | h
            · exact keep5 t (hN3.2.2 t h)
            · obtain rfl : t = ⟨g3, n3, c3, l3⟩ := by simpa using h
              exact keep5 _ hin3
          have L4 := lies_set1 (z := .slice (some ⟨gg, 0, none⟩) (hs'.length + 1) cg) Lo5
          have J5 := (((bw_trans hnx.drew J3).alloc (by omega) (.cells #[.slice (some ⟨g3, 0, none⟩) n3 c3] 23)).grown hgr5 (by simp; omega) (fun j e => by have := (hN3.2.1.lt j e).1; omega)).setCell (p := ⟨w1.heap.size, 1, none⟩) (Nat.le_refl _) (.slice (some ⟨gg, 0, none⟩) (hs'.length + 1) cg)
          clear hown5 hgr5 hat5 hlt5 keep5 hr5 O5 hN3 Lo3 Lo5 d03 d13 f03 f13 d05 d15 f05 f15 B34 hS3 hS4 hS5 hS6
          generalize w5.setCell ⟨w1.heap.size, 1, none⟩ (.slice (some ⟨gg, 0, none⟩) (hs'.length + 1) cg) = x4 at *
          obtain ⟨d0, d1, f0, f1⟩ := lies2 L4
          go_wp2_with fail
          go_roundw
          case rel =>
            refine ⟨k + 1, _, hs' ++ [(⟨g3, n3, c3, l3⟩ : LoopT)], by omega, by simp, L4, hN4, by simp [Hkl.out], ?_, J5⟩
            rw [List.map_append, hmap, List.take_add_one, ht1]
            simp [← hl3]
          case measure => simp [intOf]; omega
        · skip
          have B34 : Below w3.heap.size w3 (w3.alloc (.cells #[.slice (some ⟨g3, 0, none⟩) n3 c3] 23)) := (by repeat (first | exact bw_refl _ | assumption | apply bw_drewN | apply bw_drew | apply bw_alloc | refine bw_set ?_ (by simp) _))
          have hS4 : (fun w' : World => w'.cell? ⟨w.heap.size, 1, none⟩ = some (.slice (some ⟨gh, 0, none⟩) hs.length ch) ∧ w'.cell? ⟨gh, k, none⟩ = some (.slice (some ⟨gt, 0, none⟩) nt ct)) (w3.alloc (.cells #[.slice (some ⟨g3, 0, none⟩) n3 c3] 23)) := ⟨(B34.cell (p := ⟨w.heap.size, 1, none⟩) (show w.heap.size < w3.heap.size by omega)).trans hS3.1, (B34.cell (p := ⟨gh, k, none⟩) (show gh < w3.heap.size by omega)).trans hS3.2⟩
          refine wpOp_now rfl (by rfl) ?_
          go_simp
          refine wpAnyH_all (rs := [1]) (by kernel_rfl) (by simp) ?_
          intro i hi
          obtain rfl : i = 1 := by simpa using hi
          refine YieldsIf.wpOp (S := fun w' => w' = w3.alloc (.cells #[.slice (some ⟨g3, 0, none⟩) n3 c3] 23)) (v := hv) rfl (Or.inl ⟨by rfl, by rintro w' rfl; go_simp⟩) rfl ⟨hS4, ?_⟩
          refine wpAnyH_all (rs := [10]) (by kernel_rfl) (by simp) ?_
          intro i hi
          obtain rfl : i = 10 := by simpa using hi
          refine wpOp_now rfl (by rfl) ?_
          refine wp_append_lies _ _ _ _ (by rfl) w1.heap.size 23 i0 _ 1 24 Try.underlying24 hi0 hz0 hz1 hz2 rfl (by omega) _ hs'.length _ (by rfl) (hN3.2.1.alloc _) ⟨w3.heap.size, 0, none⟩ 1 1 [.slice (some ⟨g3, 0, none⟩) n3 c3] (by rfl) (by rfl) (World.news_of_block (cs := #[.slice (some ⟨g3, 0, none⟩) n3 c3]) (t := 23) (fr := (0, 0)) (heap_alloc_new w3 _)) (by simp [Value.oneCell']) (by omega) hmax (by omega) (by simp; omega) (w3.heap.size + 1) (by simp) ?_
          intro gg cg w5 hown5 hgr5 hat5 hlt5
          have Lo5 := lies_grown (Lo3.alloc _) hgr5 (fun e => own_ne_box hN3.2.1 Lo3 e.symm)
          have hS5 : (fun w' : World => w'.cell? ⟨w.heap.size, 1, none⟩ = some (.slice (some ⟨gh, 0, none⟩) hs.length ch) ∧ w'.cell? ⟨gh, k, none⟩ = some (.slice (some ⟨gt, 0, none⟩) nt ct)) w5 := ⟨(World.cell?_of_block (a := ⟨w.heap.size, 1, none⟩) (hgr5.block w.heap.size (by simp; omega) (fun e => own_ne_box hN3.2.1 PB3 e.symm))).trans hS4.1, (World.cell?_of_block (a := ⟨gh, k, none⟩) (hgr5.block gh (by simp; omega) (fun e => by have := (hN3.2.1.lt _ e.symm).1; omega))).trans hS4.2⟩
          refine ⟨hS5, ?_⟩
          simp only [Act.put, List.setIfInBounds_toArray]
          refine wpAnyH_take (i := 11) (v := .pointer (some ⟨w1.heap.size, 1, none⟩)) rfl (by kernel_rfl) (by kernel_rfl) (by kernel_rfl) (fun _ _ _ h => h) (Or.inl ⟨by rfl, by rintro w' ⟨s1, s2⟩; go_simp⟩) hS5 ?_
          refine wpAnyH_all (rs := [12]) (by kernel_rfl) (by simp) ?_
          intro i hi
          obtain rfl : i = 12 := by simpa using hi
          obtain ⟨d05, d15, f05, f15⟩ := lies2 Lo5
          have O5 : Only w1.heap.size w5 (w5.setCell ⟨w1.heap.size, 1, none⟩ (.slice (some ⟨gg, 0, none⟩) (hs'.length + 1) cg)) := (Only.refl (w1.heap.size) w5).set (p := ⟨w1.heap.size, 1, none⟩) (.inl rfl) _
          have hggn : gg ≠ w1.heap.size := fun e => own_ne_box hown5 Lo5 (by rw [← e]; rfl)
          have hS6 : (fun w' : World => w'.cell? ⟨w.heap.size, 1, none⟩ = some (.slice (some ⟨gh, 0, none⟩) hs.length ch) ∧ w'.cell? ⟨gh, k, none⟩ = some (.slice (some ⟨gt, 0, none⟩) nt ct)) (w5.setCell ⟨w1.heap.size, 1, none⟩ (.slice (some ⟨gg, 0, none⟩) (hs'.length + 1) cg)) := ⟨(World.cell?_of_block (a := ⟨w.heap.size, 1, none⟩) (O5.block w.heap.size (by omega) (by have := hgr5.size; simp at this; omega))).trans hS5.1, (World.cell?_of_block (a := ⟨gh, k, none⟩) (O5.block gh (by omega) (by have := hgr5.size; simp at this; omega))).trans hS5.2⟩
          refine wpOp_now rfl (by rfl) ?_
          go_simp
          refine wpAnyH_done (by kernel_rfl) ?_ _
          simp only [Exit.then, Exit.inBlock]
          have keep5 : ∀ t : LoopT, t.in w3 → t.in (w5.setCell ⟨w1.heap.size, 1, none⟩ (.slice (some ⟨gg, 0, none⟩) (hs'.length + 1) cg)) := fun t ht => by
            have h5 := (ht.below B34).grown hgr5 (ht.ne_own hN3.2.1)
            exact h5.only O5 (h5.ne_box Lo5)
          have hr5 := own_only' hown5 O5 (fun e => hggn (Option.some.inj e))
          have hN4 : PlN w1.heap.size (w5.setCell ⟨w1.heap.size, 1, none⟩ (.slice (some ⟨gg, 0, none⟩) (hs'.length + 1) cg)) ⟨g1, n, c1, l.map f⟩ (.slice (some ⟨gg, 0, none⟩) (hs'.length + 1) cg) (hs' ++ [(⟨g3, n3, c3, l3⟩ : LoopT)]) := by
            refine ⟨keep5 _ hN3.1, by simpa [LoopT.v] using hr5, fun t ht => ?_⟩
            rcases List.mem_append.1 ht with h | h
            · exact keep5 t (hN3.2.2 t h)
            · obtain rfl : t = ⟨g3, n3, c3, l3⟩ := by simpa using h
              exact keep5 _ hin3
          have L4 := lies_set1 (z := .slice (some ⟨gg, 0, none⟩) (hs'.length + 1) cg) Lo5
          have J5 := (((bw_trans hnx.drew J3).alloc (by omega) (.cells #[.slice (some ⟨g3, 0, none⟩) n3 c3] 23)).grown hgr5 (by simp; omega) (fun j e => by have := (hN3.2.1.lt j e).1; omega)).setCell (p := ⟨w1.heap.size, 1, none⟩) (Nat.le_refl _) (.slice (some ⟨gg, 0, none⟩) (hs'.length + 1) cg)
          clear hown5 hgr5 hat5 hlt5 keep5 hr5 O5 hN3 Lo3 Lo5 d03 d13 f03 f13 d05 d15 f05 f15 B34 hS3 hS4 hS5 hS6
          generalize w5.setCell ⟨w1.heap.size, 1, none⟩ (.slice (some ⟨gg, 0, none⟩) (hs'.length + 1) cg) = x4 at *
          obtain ⟨d0, d1, f0, f1⟩ := lies2 L4
          go_wp2_with fail
          go_roundw
          case rel =>
            refine ⟨k + 1, _, hs' ++ [(⟨g3, n3, c3, l3⟩ : LoopT)], by omega, by simp, L4, hN4, by simp [Hkl.out], ?_, J5⟩
            rw [List.map_append, hmap, List.take_add_one, ht1]
            simp [← hl3]
          case measure => simp [intOf]; omega
end Go.Proofs.Ythedlopfjlnogaa
namespace Go.Proofs.Ythedlopfjlnogaa
open Go.RowKit Go.Sort

theorem luPlate_raw (f : P2 → P2) (sw : Bool) (base g n c : Nat) (l : List P2) (gh ch N : Nat) (hs : List LoopT) (hN : hs.length = N) (w : World) (hD : PlD base w ⟨g, n, c, l⟩ (.slice (some ⟨gh, 0, none⟩) hs.length ch) hs)
    (hf : ∀ t, t = (⟨g, n, c, l⟩ : LoopT) ∨ t ∈ hs → ∀ i, i < t.n → ∀ w, Calls Try.prog 80 #[.agg #[.int .i64 (ptAt t.l i).1, .int .i64 (ptAt t.l i).2], .bool sw] w fun e w' => e = .returned (.agg #[.int .i64 (f (ptAt t.l i)).1, .int .i64 (f (ptAt t.l i)).2]) ∧ Below w.heap.size w w') :
    Calls Try.prog 14 #[.agg #[.slice (some ⟨g, 0, none⟩) n c, .slice (some ⟨gh, 0, none⟩) N ch], .bool sw] w fun e w' => ∃ (ga na ca nh : Nat) (aha : Option Addr) (cha : Nat), e = .returned (.agg #[.slice (some ⟨ga, 0, none⟩) na ca, .slice aha nh cha]) ∧ Plt w' (some ⟨ga, 0, none⟩) na aha nh (l.map f) ((hs.map LoopT.l).map (List.map f)) ∧ Below w.heap.size w w' := by
  subst hN
  refine (luPlate_ok f sw base ⟨g, n, c, l⟩ gh ch hs w hD hf).mono ?_
  rintro e w7 ⟨⟨ga, na, ca, la⟩, hva, hsa, rfl, hNa, hla, hsl, Ja⟩
  obtain ⟨aha, cha, rfl, hPa⟩ := hNa.plt
  have ea : hs.map (fun t => t.l.map f) = (hs.map LoopT.l).map (List.map f) := by simp [Function.comp_def]
  rw [hla, hsl, ea] at hPa
  exact ⟨ga, na, ca, _, aha, cha, rfl, hPa, Ja⟩
set_option maxRecDepth 100000 in
set_option maxHeartbeats 2000000 in
theorem plateOver_walk (w : World) (a0 : Option Addr) (len0 cap0 : Nat) (z0 : List Int) (r0 : IsRow .u8 w a0 len0 cap0 z0) :
    Calls Try.prog 3 #[.slice a0 len0 cap0] w fun e w' => e = .returned (.bool true) ∧ Below w.heap.size w w' := by
  obtain ⟨i0, hi0, hz0, hz1, hz2⟩ := info_parts Try.infoPts
  have hmx : Try.prog.follows .mixedOrders = true := by kernel_rfl
  by_cases hl : 1048576 < len0
  · go_enter Try.func3, Try.ntmps3
    go_wp2
    go_ret
    exact ⟨rfl, bw_refl _⟩
  have hl0 : len0 ≤ 1048576 := by omega
  clear hl
  go_enter Try.func3, Try.ntmps3
  go_wp2_with fail
  refine (drawPlateOk_any w _ r0 (bw_refl _)).mono ?_
  rintro e w1 ⟨⟨g, n, c, l⟩, hv, hs, he, hD, ⟨hs4, hst⟩, J1⟩
  obtain rfl : e = .returned (.agg #[.slice (some ⟨g, 0, none⟩) n c, hv]) := he
  obtain ⟨gh, ch, rfl⟩ : ∃ gh ch, hv = .slice (some ⟨gh, 0, none⟩) hs.length ch := own_seat hD.2.2.1 hst
  obtain ⟨W, hW, BW, T⟩ := boxes1' w1 (.cells #[.slice (some ⟨g, 0, none⟩) n c, .slice (some ⟨gh, 0, none⟩) hs.length ch] 26)
  have hghw1 : gh < w1.heap.size := (hD.2.2.1.lt gh rfl).2
  replace hD := hD.below BW
  have K := bw_trans J1 BW
  go_upto_region 5 with fail
  rw [← hW]
  clear hW BW J1
  have hPl := hD.plt
  obtain ⟨t0, t1⟩ := blk_2 T
  go_wp2_with fail
  refine (plateOk_any _ _ n c hs.length ch l _ _ hPl).mono ?_
  rintro e w2 ⟨rfl, J⟩
  replace K := bw_trans K J
  replace T := keep J T
  replace hD := hD.below J
  replace hPl := hPl.below J
  clear J t0 t1
  obtain ⟨t0, t1⟩ := blk_2 T
  go_wp2_with fail
  refine (sPlateOk_any _ _ n c hs.length ch l _ _ hPl).mono ?_
  rintro e w3 ⟨rfl, J⟩
  replace K := bw_trans K J
  replace T := keep J T
  replace hD := hD.below J
  replace hPl := hPl.below J
  clear J t0 t1
  obtain ⟨t0, t1⟩ := blk_2 T
  cases hv : plV l (hs.map LoopT.l)
  case false =>
    go_wp2_with fail
    refine (sPlateOk_any _ _ n c hs.length ch l _ _ hPl).mono ?_
    rw [hv]
    rintro e w4 ⟨rfl, J⟩
    go_wp2_with fail
    go_ret
    exact ⟨rfl, bw_trans K J⟩
  have hcap : hs.length ≤ ch := by
    rcases hD.2.2.1.2 with ⟨e, _⟩ | ⟨g', c', cur, e, _, _, h1, _⟩
    · cases e
    · cases e; exact h1
  have hL := (plV_iff _ _).1 hv
  have hs2 : hs.length ≤ 2 := by have := plV_len hv; simpa using this
  have hmirF : plV (l.map mirP) ((hs.map LoopT.l).map (List.map mirP)) = true := plV_turn turns_mir hv
  have hswpF : plV (l.map swpP) ((hs.map LoopT.l).map (List.map swpP)) = true := plV_turn turns_swp hv
  have hbackF : plV l.reverse ((hs.map LoopT.l).reverse.map List.reverse) = true := plV_turn turns_rev (plV_back hv)
  have hokO : Hid (okV l = true) := hL.out
  have hokH : Hid (∀ t ∈ hs, okV t.l = true) := fun t ht => hL.ok _ (List.mem_map.2 ⟨t, ht, rfl⟩)
  have hFm : Hid (∀ t, t = (⟨g, n, c, l⟩ : LoopT) ∨ t ∈ hs → ∀ i, i < t.n → ∀ w, Calls Try.prog 80 #[.agg #[.int .i64 (ptAt t.l i).1, .int .i64 (ptAt t.l i).2], .bool false] w fun e w' => e = .returned (.agg #[.int .i64 (mirP (ptAt t.l i)).1, .int .i64 (mirP (ptAt t.l i)).2]) ∧ Below w.heap.size w w') := by
    have hnl : ∀ t ∈ hs, t.l.length = t.n := fun t ht => (hD.2.2.2 t ht).2.2.1
    have hno : l.length = n := hD.1.2.2.1
    intro t ht i hi w
    refine luPlace_f (ptAt t.l i) ?_ w
    rcases ht with rfl | ht
    · exact okV_pt hokO.out (by show i < l.length; rw [hno]; exact hi)
    · exact okV_pt (hokH.out t ht) (by rw [hnl t ht]; exact hi)
  have hFs : Hid (∀ t, t = (⟨g, n, c, l⟩ : LoopT) ∨ t ∈ hs → ∀ i, i < t.n → ∀ w, Calls Try.prog 80 #[.agg #[.int .i64 (ptAt t.l i).1, .int .i64 (ptAt t.l i).2], .bool true] w fun e w' => e = .returned (.agg #[.int .i64 (swpP (ptAt t.l i)).1, .int .i64 (swpP (ptAt t.l i)).2]) ∧ Below w.heap.size w w') := fun t _ i _ w => luPlace_t (ptAt t.l i) w
  obtain ⟨q0, q1⟩ := reg_2 T
  have hlessV : Hid (0 < hs.length → ∀ d os, Calls Try.prog 11 #[.agg #[.slice (some ⟨g, 0, none⟩) n c, .slice (some ⟨gh, 0, none⟩) (hs.length - 1) ch]] (grow (redrawn w3 d) os) fun e W' => e = .returned (.bool true) ∧ Below (grow (redrawn w3 d) os).heap.size (grow (redrawn w3 d) os) W') := fun hp d os => by
    rcases List.eq_nil_or_concat hs with h0 | ⟨hs', t, hhs⟩
    · rw [h0] at hp; simp at hp
    · rw [List.concat_eq_append] at hhs
      have hm : hs.map LoopT.l = hs'.map LoopT.l ++ [t.l] := by rw [hhs]; simp
      have hm2 : hs.length = hs'.length + 1 := by rw [hhs]; simp
      have hm3 : hs.length - 1 = hs'.length := by omega
      have h1 := hPl
      rw [hm, hm2] at h1
      have h2 := (h1.less).below (below_regrown w3 d os)
      have h3 : plV l (hs'.map LoopT.l) = true := by have := plV_less hv; rwa [hm, List.dropLast_concat] at this
      rw [hm3]
      have h4 := plateOk_any (some ⟨g, 0, none⟩) (some ⟨gh, 0, none⟩) n c hs'.length ch l _ _ h2
      rwa [h3] at h4
  obtain ⟨N, hNN⟩ : ∃ N, hs.length = N := ⟨_, rfl⟩
  have HN : Hid (hs.length = N) := hNN
  rw [hNN] at T t1 q1 hcap hs2 hlessV
  rw [hNN]
  clear hNN hPl
  by_cases h0 : N = 0
  · have h0' : ¬ ((0 : Int) < (N : Int)) := by omega
    have h0n : decide (0 < N) = false := by simp; omega
    have h0h : Hid (N = 0) := h0
    clear h0
    go_wp2_with fail
    refine wp_region_quiet_below (by kernel_rfl) (by kernel_rfl) ?_
    repeat (first | go_big_quiet_step (fail))
    refine wpQuiet_nil ?_
    intro _ hw'
    obtain ⟨⟨dq, osq⟩, hw''⟩ := hw'
    subst hw''
    have J := below_regrown w3 dq osq
    generalize grow (redrawn w3 dq) osq = w4 at J ⊢
    have T4 := keep J T
    have K4 := bw_trans K J
    have hD4 := hD.below J
    clear t0 t1 q0 q1
    obtain ⟨t0, t1⟩ := blk_2 T4
    obtain ⟨o1, o2, o3, o4, o5, o6, o7⟩ := hD4.1
    have o1' : 3 ≤ n := o1
    have o2' : n ≤ 8 := o2
    have o3' : l.length = n := o3
    go_wp2_with fail
    refine (luBackward_ok g n c l _ o7 o3 (by omega) (by omega)).mono ?_
    have hln : l.reverse.length = n := by simp [o3']
    rintro e w5 ⟨g1, c1, rfl, hb1, J5⟩
    rw [hln] at hb1
    rw [hln]
    have K5 := bw_trans K4 J5
    have T5 := keep J5 T4
    have hD5 := hD4.below J5
    have zT := blk_lt T5
    have zg1 := hb1.lt
    have zw13 : w1.heap.size < w3.heap.size := blk_lt T
    have Bq : Below w5.heap.size w5 (w5.alloc (.cells #[.slice (some ⟨g1, 0, none⟩) n c1, .slice none 0 0] 26)) := (by repeat (first | exact bw_refl _ | assumption | apply bw_drewN | apply bw_drew | apply bw_alloc | refine bw_set ?_ (by simp) _))
    have Lp : Lies w5.heap.size #[.slice (some ⟨g1, 0, none⟩) n c1, .slice none 0 0] 26 (w5.alloc (.cells #[.slice (some ⟨g1, 0, none⟩) n c1, .slice none 0 0] 26)) := Lies.new w5 _ _
    have hN0 : PlN w5.heap.size (w5.alloc (.cells #[.slice (some ⟨g1, 0, none⟩) n c1, .slice none 0 0] 26)) ⟨g1, n, c1, l.reverse⟩ (.slice none 0 0) [] := ⟨LoopT.in.below ⟨o1', o2', hln, hb1⟩ Bq, ⟨rfl, .inl ⟨rfl, rfl⟩⟩, fun t ht => by simp at ht⟩
    clear J J5 o7 t0 t1
    go_wp2_with fail
    go_loopw [7] (fun i wr => ∃ (k : Nat) (hv : Value) (hs' : List LoopT), k ≤ N ∧ i = .int .i64 ((N : Int) - 1 - k) ∧ Lies w5.heap.size #[.slice (some ⟨g1, 0, none⟩) n c1, hv] 26 wr ∧ PlN w5.heap.size wr ⟨g1, n, c1, l.reverse⟩ hv hs' ∧ hs'.length = k ∧ hs'.map LoopT.l = (hs.reverse.take k).map (fun t => t.l.reverse) ∧ Below w5.heap.size w5 wr) (fun i _ => (intOf i + 1).toNat)
    case atStart => exact ⟨0, _, [], Nat.zero_le _, by simp <;> omega, Lp, hN0, rfl, rfl, Bq⟩
    case round =>
      obtain ⟨k, hv', hs', hk, rfl, Lo, hN, hkl, hmap, hnx⟩ := hrel
      have T2 := keep hnx T5
      obtain ⟨t0, t1⟩ := blk_2 T2
      have K2 := bw_trans K5 hnx
      by_cases hlt : k < N
      case neg =>
        obtain rfl : N = k := by omega
        rw [List.take_of_length_le (by rw [List.length_reverse, HN.out]; exact Nat.le_refl _)] at hmap
        have hneg : ¬ (0 ≤ (N : Int) - 1 - (N : Int)) := by omega
        have hneg2 : (N : Int) - 1 - (N : Int) < 0 := by omega
        have hD6 := hD5.below hnx
        go_wp2_with fail
        refine (luPlate_raw mirP false _ g n c l gh ch N hs HN.out _ hD6 hFm.out).mono ?_
        rintro e w7 ⟨ga, na, ca, nha, aha, cha, rfl, hPa, Ja⟩
        have K7 := bw_trans K2 Ja
        go_wp2_with fail
        refine (plateOk_any _ _ na ca _ cha _ _ _ hPa).mono ?_
        rw [hmirF]
        rintro e w8 ⟨rfl, Jb⟩
        have Jab := bw_trans Ja Jb
        have T8 := keep Jab T2
        have hD8 := hD6.below Jab
        clear t0 t1
        obtain ⟨t0, t1⟩ := blk_2 T8
        go_wp2_with fail
        refine (luPlate_raw swpP true _ g n c l gh ch N hs HN.out _ hD8 hFs.out).mono ?_
        rintro e w9 ⟨gb, nb, cb, nhb, ahb, chb, rfl, hPb, Jc⟩
        go_wp2_with fail
        refine (plateOk_any _ _ nb cb _ chb _ _ _ hPb).mono ?_
        rw [hswpF]
        rintro e w10 ⟨rfl, Jd⟩
        have Jbd := bw_trans Jab (bw_trans Jc Jd)
        have L10 := Lo.below Jbd
        have hN10 := hN.below Jbd
        have K10 := bw_trans K2 Jbd
        obtain ⟨ahc, chc, rfl, hPc⟩ := hN10.plt
        rw [hmap, hkl] at hPc
        have ec : hs.reverse.map (fun t => t.l.reverse) = (hs.map LoopT.l).reverse.map List.reverse := by rw [← List.map_reverse, List.map_map]; rfl
        obtain ⟨d0, d1, f0, f1⟩ := lies2 L10
        go_wp2_with fail
        refine (plateOk_any _ _ n c1 _ chc _ _ _ hPc).mono ?_
        rw [ec, hbackF]
        rintro e w11 ⟨rfl, Je⟩
        go_wp2_with fail
        go_ret
        exact ⟨rfl, bw_trans K10 Je⟩
      case pos => exact absurd hlt (by have := h0h.out; omega)
  · have h0' : (0 : Int) < (N : Int) := by omega
    have h0n : decide (0 < N) = true := by simp; omega
    have hX := hlessV.out (by omega)
    obtain ⟨mm, hmm⟩ : ∃ mm, N - 1 = mm := ⟨_, rfl⟩
    have hmi0 : (N : Int) - 1 = (mm : Int) := by omega
    have sm0 : (0 : Int) ≤ (mm : Int) := Int.natCast_nonneg _
    have sm1 : (mm : Int) ≤ (ch : Int) := by omega
    have sm2 : (ch = 0) = False := by simp; omega
    rw [hmm] at hX
    have HX : Hid (∀ d os, Calls Try.prog 11 #[.agg #[.slice (some ⟨g, 0, none⟩) n c, .slice (some ⟨gh, 0, none⟩) mm ch]] (grow (redrawn w3 d) os) fun e W' => e = .returned (.bool true) ∧ Below (grow (redrawn w3 d) os).heap.size (grow (redrawn w3 d) os) W') := hX
    clear hX
    go_wp2_with fail
    refine wp_region_quiet_below (by kernel_rfl) (by kernel_rfl) ?_
    repeat (first | go_big_quiet_step (first | (go_at_call 11; with_reducible exact Calls.regrown_of (HX.out _ _))))
    refine wpQuiet_nil ?_
    intro _ hw'
    obtain ⟨⟨dq, osq⟩, hw''⟩ := hw'
    subst hw''
    have J := below_regrown w3 dq osq
    generalize grow (redrawn w3 dq) osq = w4 at J ⊢
    have T4 := keep J T
    have K4 := bw_trans K J
    have hD4 := hD.below J
    clear t0 t1 q0 q1
    obtain ⟨t0, t1⟩ := blk_2 T4
    obtain ⟨o1, o2, o3, o4, o5, o6, o7⟩ := hD4.1
    have o1' : 3 ≤ n := o1
    have o2' : n ≤ 8 := o2
    have o3' : l.length = n := o3
    go_wp2_with fail
    refine (luBackward_ok g n c l _ o7 o3 (by omega) (by omega)).mono ?_
    have hln : l.reverse.length = n := by simp [o3']
    rintro e w5 ⟨g1, c1, rfl, hb1, J5⟩
    rw [hln] at hb1
    rw [hln]
    have K5 := bw_trans K4 J5
    have T5 := keep J5 T4
    have hD5 := hD4.below J5
    have zT := blk_lt T5
    have zg1 := hb1.lt
    have zw13 : w1.heap.size < w3.heap.size := blk_lt T
    have Bq : Below w5.heap.size w5 (w5.alloc (.cells #[.slice (some ⟨g1, 0, none⟩) n c1, .slice none 0 0] 26)) := (by repeat (first | exact bw_refl _ | assumption | apply bw_drewN | apply bw_drew | apply bw_alloc | refine bw_set ?_ (by simp) _))
    have Lp : Lies w5.heap.size #[.slice (some ⟨g1, 0, none⟩) n c1, .slice none 0 0] 26 (w5.alloc (.cells #[.slice (some ⟨g1, 0, none⟩) n c1, .slice none 0 0] 26)) := Lies.new w5 _ _
    have hN0 : PlN w5.heap.size (w5.alloc (.cells #[.slice (some ⟨g1, 0, none⟩) n c1, .slice none 0 0] 26)) ⟨g1, n, c1, l.reverse⟩ (.slice none 0 0) [] := ⟨LoopT.in.below ⟨o1', o2', hln, hb1⟩ Bq, ⟨rfl, .inl ⟨rfl, rfl⟩⟩, fun t ht => by simp at ht⟩
    clear J J5 o7 t0 t1
    go_wp2_with fail
    go_loopw [7] (fun i wr => ∃ (k : Nat) (hv : Value) (hs' : List LoopT), k ≤ N ∧ i = .int .i64 ((N : Int) - 1 - k) ∧ Lies w5.heap.size #[.slice (some ⟨g1, 0, none⟩) n c1, hv] 26 wr ∧ PlN w5.heap.size wr ⟨g1, n, c1, l.reverse⟩ hv hs' ∧ hs'.length = k ∧ hs'.map LoopT.l = (hs.reverse.take k).map (fun t => t.l.reverse) ∧ Below w5.heap.size w5 wr) (fun i _ => (intOf i + 1).toNat)
    case atStart => exact ⟨0, _, [], Nat.zero_le _, by simp <;> omega, Lp, hN0, rfl, rfl, Bq⟩
    case round =>
      obtain ⟨k, hv', hs', hk, rfl, Lo, hN, hkl, hmap, hnx⟩ := hrel
      have T2 := keep hnx T5
      obtain ⟨t0, t1⟩ := blk_2 T2
      have K2 := bw_trans K5 hnx
      by_cases hlt : k < N
      case neg =>
        obtain rfl : N = k := by omega
        rw [List.take_of_length_le (by rw [List.length_reverse, HN.out]; exact Nat.le_refl _)] at hmap
        have hneg : ¬ (0 ≤ (N : Int) - 1 - (N : Int)) := by omega
        have hneg2 : (N : Int) - 1 - (N : Int) < 0 := by omega
        have hD6 := hD5.below hnx
        go_wp2_with fail
        refine (luPlate_raw mirP false _ g n c l gh ch N hs HN.out _ hD6 hFm.out).mono ?_
        rintro e w7 ⟨ga, na, ca, nha, aha, cha, rfl, hPa, Ja⟩
        have K7 := bw_trans K2 Ja
        go_wp2_with fail
        refine (plateOk_any _ _ na ca _ cha _ _ _ hPa).mono ?_
        rw [hmirF]
        rintro e w8 ⟨rfl, Jb⟩
        have Jab := bw_trans Ja Jb
        have T8 := keep Jab T2
        have hD8 := hD6.below Jab
        clear t0 t1
        obtain ⟨t0, t1⟩ := blk_2 T8
        go_wp2_with fail
        refine (luPlate_raw swpP true _ g n c l gh ch N hs HN.out _ hD8 hFs.out).mono ?_
        rintro e w9 ⟨gb, nb, cb, nhb, ahb, chb, rfl, hPb, Jc⟩
        go_wp2_with fail
        refine (plateOk_any _ _ nb cb _ chb _ _ _ hPb).mono ?_
        rw [hswpF]
        rintro e w10 ⟨rfl, Jd⟩
        have Jbd := bw_trans Jab (bw_trans Jc Jd)
        have L10 := Lo.below Jbd
        have hN10 := hN.below Jbd
        have K10 := bw_trans K2 Jbd
        obtain ⟨ahc, chc, rfl, hPc⟩ := hN10.plt
        rw [hmap, hkl] at hPc
        have ec : hs.reverse.map (fun t => t.l.reverse) = (hs.map LoopT.l).reverse.map List.reverse := by rw [← List.map_reverse, List.map_map]; rfl
        obtain ⟨d0, d1, f0, f1⟩ := lies2 L10
        go_wp2_with fail
        refine (plateOk_any _ _ n c1 _ chc _ _ _ hPc).mono ?_
        rw [ec, hbackF]
        rintro e w11 ⟨rfl, Je⟩
        go_wp2_with fail
        go_ret
        exact ⟨rfl, bw_trans K10 Je⟩
      case pos =>
        obtain ⟨m, hm⟩ : ∃ m : Nat, N - 1 - k = m := ⟨_, rfl⟩
        have hmi : (N : Int) - 1 - k = (m : Int) := by omega
        have hmn : m < N := by omega
        rw [hmi]
        obtain ⟨gt, nt, ct, lt, ht1, ht2, htc, nt3, nt8, htl, htb⟩ := (hD5.below hnx).hole (by rw [HN.out]; exact hmn)
        have i0' : (0 : Int) ≤ (m : Int) := Int.natCast_nonneg _
        have i1' : (m : Int) < (N : Int) := by omega
        have m4 : (m : Int) ≤ 4 := by omega
        have qm : IntKind.i64.wrap ((m : Int) - 1) = (m : Int) - 1 := wrap_small (by omega) (by omega)
        have hcall := luBackward_ok gt nt ct lt wr.drew (htb.below (bw_drew (bw_refl _))) htl (by omega) (by omega)
        have hkk : hs'.length ≤ 4 := by rw [hkl]; omega
        obtain ⟨d0, d1, f0, f1⟩ := lies2 Lo
        have hmax : hs'.length + 1 ≤ maxLen := by simp [maxLen]; omega
        have hlt3 : lt.reverse.length = nt := by simp [htl]
        have zPB : w1.heap.size < wr.heap.size := blk_lt T2
        have zGH : gh < wr.heap.size := by omega
        have zGH5 : gh < w5.heap.size := by omega
        have zw1 := hnx.size
        have hmr : hs.reverse[k]? = some (⟨gt, nt, ct, lt⟩ : LoopT) := by rw [List.getElem?_reverse (by rw [HN.out]; exact hlt), HN.out, hm]; exact ht1
        have Hkl : Hid (hs'.length = k) := hkl
        clear t0 hkl
        go_wp2_with fail
        refine wp_region_held (S := (fun w' : World => w'.cell? ⟨w1.heap.size, 1, none⟩ = some (.slice (some ⟨gh, 0, none⟩) N ch) ∧ w'.cell? ⟨gh, m, none⟩ = some (.slice (some ⟨gt, 0, none⟩) nt ct))) hmx ?_
        have hS0 : (fun w' : World => w'.cell? ⟨w1.heap.size, 1, none⟩ = some (.slice (some ⟨gh, 0, none⟩) N ch) ∧ w'.cell? ⟨gh, m, none⟩ = some (.slice (some ⟨gt, 0, none⟩) nt ct)) wr.drew := ⟨t1, htc⟩
        refine wpAnyH_take (i := 0) (v := .pointer (some ⟨w5.heap.size, 1, none⟩)) rfl (by kernel_rfl) (by kernel_rfl) (by kernel_rfl) (fun _ _ _ h => h) (Or.inl ⟨by rfl, by rintro w' ⟨s1, s2⟩; go_simp⟩) hS0 ?_
        refine wpAnyH_take (i := 2) (v := .pointer (some ⟨w1.heap.size, 1, none⟩)) rfl (by kernel_rfl) (by kernel_rfl) (by kernel_rfl) (fun _ _ _ h => h) (Or.inl ⟨by rfl, by rintro w' ⟨s1, s2⟩; go_simp⟩) hS0 ?_
        refine wpAnyH_take (i := 4) (v := .int .i64 (m : Int)) rfl (by kernel_rfl) (by kernel_rfl) (by kernel_rfl) (fun _ _ _ h => h) (Or.inl ⟨by rfl, by rintro w' ⟨s1, s2⟩; go_simp⟩) hS0 ?_
        refine wpAnyH_take (i := 3) (v := .slice (some ⟨gh, 0, none⟩) N ch) rfl (by kernel_rfl) (by kernel_rfl) (by kernel_rfl) (fun _ _ _ h => h) (Or.inl ⟨by rfl, by rintro w' ⟨s1, s2⟩; go_simp⟩) hS0 ?_
        refine wpAnyH_take (i := 5) (v := .pointer (some ⟨gh, m, none⟩)) rfl (by kernel_rfl) (by kernel_rfl) (by kernel_rfl) (fun _ _ _ h => h) (Or.inl ⟨by rfl, by rintro w' ⟨s1, s2⟩; go_simp⟩) hS0 ?_
        refine wpAnyH_take (i := 6) (v := .slice (some ⟨gt, 0, none⟩) nt ct) rfl (by kernel_rfl) (by kernel_rfl) (by kernel_rfl) (fun _ _ _ h => h) (Or.inl ⟨by rfl, by rintro w' ⟨s1, s2⟩; go_simp⟩) hS0 ?_
        refine wpAnyH_all (rs := [1, 7]) (by kernel_rfl) (by simp) ?_
        intro i hi
        have hi' : i = 1 ∨ i = 7 := by simpa using hi
        clear hi
        rcases hi' with rfl | rfl
        · skip
          refine YieldsIf.wpOp (S := fun w' => w' = wr.drew) (v := hv') rfl (Or.inl ⟨by rfl, by rintro w' rfl; go_simp⟩) rfl ⟨hS0, ?_⟩
          refine wpAnyH_all (rs := [7]) (by kernel_rfl) (by simp) ?_
          intro i hi
          obtain rfl : i = 7 := by simpa using hi
          refine wpOp_now rfl (by rfl) ?_
          go_simp
          refine hcall.mono ?_
          rintro e w6 ⟨g3, c3, rfl, hb3, J3⟩
          obtain ⟨n3, l3, hn3, hl3, hin3⟩ : ∃ n3 l3, lt.reverse.length = n3 ∧ lt.reverse = l3 ∧ LoopT.in w6 ⟨g3, n3, c3, l3⟩ := ⟨nt, lt.reverse, hlt3, rfl, nt3, nt8, hlt3, by rw [hlt3] at hb3; exact hb3⟩
          rw [hn3]
          have PB3 := (show Lies w1.heap.size #[.slice (some ⟨g, 0, none⟩) n c, .slice (some ⟨gh, 0, none⟩) N ch] 26 wr.drew from T2).below J3
          have Lo3 := (show Lies w5.heap.size #[.slice (some ⟨g1, 0, none⟩) n c1, hv'] 26 wr.drew from Lo).below J3
          have hN3 := (show PlN w5.heap.size wr.drew ⟨g1, n, c1, l.reverse⟩ hv' hs' from hN.below (bw_drew (bw_refl _))).below J3
          have hS3 : (fun w' : World => w'.cell? ⟨w1.heap.size, 1, none⟩ = some (.slice (some ⟨gh, 0, none⟩) N ch) ∧ w'.cell? ⟨gh, m, none⟩ = some (.slice (some ⟨gt, 0, none⟩) nt ct)) w6 := ⟨(J3.cell (p := ⟨w1.heap.size, 1, none⟩) zPB).trans t1, (J3.cell (p := ⟨gh, m, none⟩) zGH).trans htc⟩
          obtain ⟨d03, d13, f03, f13⟩ := lies2 Lo3
          have zo3 := Lo3.lt
          have zwr3 := J3.size
          refine ⟨hS3, ?_⟩
          refine wpAnyH_all (rs := [8]) (by kernel_rfl) (by simp) ?_
          intro i hi
          obtain rfl : i = 8 := by simpa using hi
          have B34 : Below w6.heap.size w6 (w6.alloc (.cells #[.slice (some ⟨g3, 0, none⟩) n3 c3] 23)) := (by repeat (first | exact bw_refl _ | assumption | apply bw_drewN | apply bw_drew | apply bw_alloc | refine bw_set ?_ (by simp) _))
          have hS4 : (fun w' : World => w'.cell? ⟨w1.heap.size, 1, none⟩ = some (.slice (some ⟨gh, 0, none⟩) N ch) ∧ w'.cell? ⟨gh, m, none⟩ = some (.slice (some ⟨gt, 0, none⟩) nt ct)) (w6.alloc (.cells #[.slice (some ⟨g3, 0, none⟩) n3 c3] 23)) := ⟨(B34.cell (p := ⟨w1.heap.size, 1, none⟩) (show w1.heap.size < w6.heap.size by omega)).trans hS3.1, (B34.cell (p := ⟨gh, m, none⟩) (show gh < w6.heap.size by omega)).trans hS3.2⟩
          refine wpOp_now rfl (by rfl) ?_
          go_simp
          refine wpAnyH_all (rs := [9]) (by kernel_rfl) (by simp) ?_
          intro i hi
          obtain rfl : i = 9 := by simpa using hi
          refine wpOp_now rfl (by rfl) ?_
          refine wp_append_lies _ _ _ _ (by rfl) w5.heap.size 23 i0 _ 1 24 Try.underlying24 hi0 hz0 hz1 hz2 rfl (by omega) _ hs'.length _ (by rfl) (hN3.2.1.alloc _) ⟨w6.heap.size, 0, none⟩ 1 1 [.slice (some ⟨g3, 0, none⟩) n3 c3] (by rfl) (by rfl) (World.news_of_block (cs := #[.slice (some ⟨g3, 0, none⟩) n3 c3]) (t := 23) (fr := (0, 0)) (heap_alloc_new w6 _)) (by simp [Value.oneCell']) (by omega) hmax (by omega) (by simp; omega) (w6.heap.size + 1) (by simp) ?_
          intro gg cg y5 hown5 hgr5 hat5 hlt5
          have Lo5 := lies_grown (Lo3.alloc _) hgr5 (fun e => own_ne_box hN3.2.1 Lo3 e.symm)
          have hS5 : (fun w' : World => w'.cell? ⟨w1.heap.size, 1, none⟩ = some (.slice (some ⟨gh, 0, none⟩) N ch) ∧ w'.cell? ⟨gh, m, none⟩ = some (.slice (some ⟨gt, 0, none⟩) nt ct)) y5 := ⟨(World.cell?_of_block (a := ⟨w1.heap.size, 1, none⟩) (hgr5.block w1.heap.size (by simp; omega) (fun e => own_ne_box hN3.2.1 PB3 e.symm))).trans hS4.1, (World.cell?_of_block (a := ⟨gh, m, none⟩) (hgr5.block gh (by simp; omega) (fun e => by have := (hN3.2.1.lt _ e.symm).1; omega))).trans hS4.2⟩
          refine ⟨hS5, ?_⟩
          simp only [Act.put, List.setIfInBounds_toArray]
          refine wpAnyH_take (i := 10) (v := .pointer (some ⟨w5.heap.size, 1, none⟩)) rfl (by kernel_rfl) (by kernel_rfl) (by kernel_rfl) (fun _ _ _ h => h) (Or.inl ⟨by rfl, by rintro w' ⟨s1, s2⟩; go_simp⟩) hS5 ?_
          refine wpAnyH_all (rs := [11]) (by kernel_rfl) (by simp) ?_
          intro i hi
          obtain rfl : i = 11 := by simpa using hi
          obtain ⟨d05, d15, f05, f15⟩ := lies2 Lo5
          have O5 : Only w5.heap.size y5 (y5.setCell ⟨w5.heap.size, 1, none⟩ (.slice (some ⟨gg, 0, none⟩) (hs'.length + 1) cg)) := (Only.refl (w5.heap.size) y5).set (p := ⟨w5.heap.size, 1, none⟩) (.inl rfl) _
          have hggn : gg ≠ w5.heap.size := fun e => own_ne_box hown5 Lo5 (by rw [← e]; rfl)
          have hS6 : (fun w' : World => w'.cell? ⟨w1.heap.size, 1, none⟩ = some (.slice (some ⟨gh, 0, none⟩) N ch) ∧ w'.cell? ⟨gh, m, none⟩ = some (.slice (some ⟨gt, 0, none⟩) nt ct)) (y5.setCell ⟨w5.heap.size, 1, none⟩ (.slice (some ⟨gg, 0, none⟩) (hs'.length + 1) cg)) := ⟨(World.cell?_of_block (a := ⟨w1.heap.size, 1, none⟩) (O5.block w1.heap.size (by omega) (by have := hgr5.size; simp at this; omega))).trans hS5.1, (World.cell?_of_block (a := ⟨gh, m, none⟩) (O5.block gh (by omega) (by have := hgr5.size; simp at this; omega))).trans hS5.2⟩
          refine wpOp_now rfl (by rfl) ?_
          go_simp
          refine wpAnyH_done (by kernel_rfl) ?_ _
          simp only [Exit.then, Exit.inBlock]
          have keep5 : ∀ t : LoopT, t.in w6 → t.in (y5.setCell ⟨w5.heap.size, 1, none⟩ (.slice (some ⟨gg, 0, none⟩) (hs'.length + 1) cg)) := fun t ht => by
            have h5 := (ht.below B34).grown hgr5 (ht.ne_own hN3.2.1)
            exact h5.only O5 (h5.ne_box Lo5)
          have hr5 := own_only' hown5 O5 (fun e => hggn (Option.some.inj e))
          have hN4 : PlN w5.heap.size (y5.setCell ⟨w5.heap.size, 1, none⟩ (.slice (some ⟨gg, 0, none⟩) (hs'.length + 1) cg)) ⟨g1, n, c1, l.reverse⟩ (.slice (some ⟨gg, 0, none⟩) (hs'.length + 1) cg) (hs' ++ [(⟨g3, n3, c3, l3⟩ : LoopT)]) := by
            refine ⟨keep5 _ hN3.1, by simpa [LoopT.v] using hr5, fun t ht => ?_⟩
            rcases List.mem_append.1 ht with h | h
            · exact keep5 t (hN3.2.2 t h)
            · obtain rfl : t = ⟨g3, n3, c3, l3⟩ := by simpa using h
              exact keep5 _ hin3
          have L4 := lies_set1 (z := .slice (some ⟨gg, 0, none⟩) (hs'.length + 1) cg) Lo5
          have J5 := (((bw_trans hnx.drew J3).alloc (by omega) (.cells #[.slice (some ⟨g3, 0, none⟩) n3 c3] 23)).grown hgr5 (by simp; omega) (fun j e => by have := (hN3.2.1.lt j e).1; omega)).setCell (p := ⟨w5.heap.size, 1, none⟩) (Nat.le_refl _) (.slice (some ⟨gg, 0, none⟩) (hs'.length + 1) cg)
          clear hown5 hgr5 hat5 hlt5 keep5 hr5 O5 hN3 Lo3 Lo5 d03 d13 f03 f13 d05 d15 f05 f15 B34 hS3 hS4 hS5 hS6
          generalize y5.setCell ⟨w5.heap.size, 1, none⟩ (.slice (some ⟨gg, 0, none⟩) (hs'.length + 1) cg) = x4 at *
          obtain ⟨d0, d1, f0, f1⟩ := lies2 L4
          go_wp2_with fail
          go_roundw
          case rel =>
            refine ⟨k + 1, _, hs' ++ [(⟨g3, n3, c3, l3⟩ : LoopT)], by omega, by have e : (m : Int) - 1 = (N : Int) - 1 - ((k + 1 : Nat) : Int) := (by omega); rw [e], L4, hN4, by simp [Hkl.out], ?_, J5⟩
            rw [List.map_append, hmap, List.take_add_one, hmr]
            simp [← hl3]
          case measure => simp [intOf]
        · skip
          refine wpOp_now rfl (by rfl) ?_
          go_simp
          refine hcall.mono ?_
          rintro e w6 ⟨g3, c3, rfl, hb3, J3⟩
          obtain ⟨n3, l3, hn3, hl3, hin3⟩ : ∃ n3 l3, lt.reverse.length = n3 ∧ lt.reverse = l3 ∧ LoopT.in w6 ⟨g3, n3, c3, l3⟩ := ⟨nt, lt.reverse, hlt3, rfl, nt3, nt8, hlt3, by rw [hlt3] at hb3; exact hb3⟩
          rw [hn3]
          have PB3 := (show Lies w1.heap.size #[.slice (some ⟨g, 0, none⟩) n c, .slice (some ⟨gh, 0, none⟩) N ch] 26 wr.drew from T2).below J3
          have Lo3 := (show Lies w5.heap.size #[.slice (some ⟨g1, 0, none⟩) n c1, hv'] 26 wr.drew from Lo).below J3
          have hN3 := (show PlN w5.heap.size wr.drew ⟨g1, n, c1, l.reverse⟩ hv' hs' from hN.below (bw_drew (bw_refl _))).below J3
          have hS3 : (fun w' : World => w'.cell? ⟨w1.heap.size, 1, none⟩ = some (.slice (some ⟨gh, 0, none⟩) N ch) ∧ w'.cell? ⟨gh, m, none⟩ = some (.slice (some ⟨gt, 0, none⟩) nt ct)) w6 := ⟨(J3.cell (p := ⟨w1.heap.size, 1, none⟩) zPB).trans t1, (J3.cell (p := ⟨gh, m, none⟩) zGH).trans htc⟩
          obtain ⟨d03, d13, f03, f13⟩ := lies2 Lo3
          have zo3 := Lo3.lt
          have zwr3 := J3.size
          refine ⟨hS3, ?_⟩
          refine wpAnyH_all (rs := [1, 8]) (by kernel_rfl) (by simp) ?_
          intro i hi
          have hi' : i = 1 ∨ i = 8 := by simpa using hi
          clear hi
          rcases hi' with rfl | rfl
          · skip
            refine YieldsIf.wpOp (S := fun w' => w' = w6) (v := hv') rfl (Or.inl ⟨by rfl, by rintro w' rfl; go_simp⟩) rfl ⟨hS3, ?_⟩
            refine wpAnyH_all (rs := [8]) (by kernel_rfl) (by simp) ?_
            intro i hi
            obtain rfl : i = 8 := by simpa using hi
            have B34 : Below w6.heap.size w6 (w6.alloc (.cells #[.slice (some ⟨g3, 0, none⟩) n3 c3] 23)) := (by repeat (first | exact bw_refl _ | assumption | apply bw_drewN | apply bw_drew | apply bw_alloc | refine bw_set ?_ (by simp) _))
            have hS4 : (fun w' : World => w'.cell? ⟨w1.heap.size, 1, none⟩ = some (.slice (some ⟨gh, 0, none⟩) N ch) ∧ w'.cell? ⟨gh, m, none⟩ = some (.slice (some ⟨gt, 0, none⟩) nt ct)) (w6.alloc (.cells #[.slice (some ⟨g3, 0, none⟩) n3 c3] 23)) := ⟨(B34.cell (p := ⟨w1.heap.size, 1, none⟩) (show w1.heap.size < w6.heap.size by omega)).trans hS3.1, (B34.cell (p := ⟨gh, m, none⟩) (show gh < w6.heap.size by omega)).trans hS3.2⟩
            refine wpOp_now rfl (by rfl) ?_
            go_simp
            refine wpAnyH_all (rs := [9]) (by kernel_rfl) (by simp) ?_
            intro i hi
            obtain rfl : i = 9 := by simpa using hi
            refine wpOp_now rfl (by rfl) ?_
            refine wp_append_lies _ _ _ _ (by rfl) w5.heap.size 23 i0 _ 1 24 Try.underlying24 hi0 hz0 hz1 hz2 rfl (by omega) _ hs'.length _ (by rfl) (hN3.2.1.alloc _) ⟨w6.heap.size, 0, none⟩ 1 1 [.slice (some ⟨g3, 0, none⟩) n3 c3] (by rfl) (by rfl) (World.news_of_block (cs := #[.slice (some ⟨g3, 0, none⟩) n3 c3]) (t := 23) (fr := (0, 0)) (heap_alloc_new w6 _)) (by simp [Value.oneCell']) (by omega) hmax (by omega) (by simp; omega) (w6.heap.size + 1) (by simp) ?_
            intro gg cg y5 hown5 hgr5 hat5 hlt5
            have Lo5 := lies_grown (Lo3.alloc _) hgr5 (fun e => own_ne_box hN3.2.1 Lo3 e.symm)
            have hS5 : (fun w' : World => w'.cell? ⟨w1.heap.size, 1, none⟩ = some (.slice (some ⟨gh, 0, none⟩) N ch) ∧ w'.cell? ⟨gh, m, none⟩ = some (.slice (some ⟨gt, 0, none⟩) nt ct)) y5 := ⟨(World.cell?_of_block (a := ⟨w1.heap.size, 1, none⟩) (hgr5.block w1.heap.size (by simp; omega) (fun e => own_ne_box hN3.2.1 PB3 e.symm))).trans hS4.1, (World.cell?_of_block (a := ⟨gh, m, none⟩) (hgr5.block gh (by simp; omega) (fun e => by have := (hN3.2.1.lt _ e.symm).1; omega))).trans hS4.2⟩
            refine ⟨hS5, ?_⟩
            simp only [Act.put, List.setIfInBounds_toArray]
            refine wpAnyH_take (i := 10) (v := .pointer (some ⟨w5.heap.size, 1, none⟩)) rfl (by kernel_rfl) (by kernel_rfl) (by kernel_rfl) (fun _ _ _ h => h) (Or.inl ⟨by rfl, by rintro w' ⟨s1, s2⟩; go_simp⟩) hS5 ?_
            refine wpAnyH_all (rs := [11]) (by kernel_rfl) (by simp) ?_
            intro i hi
            obtain rfl : i = 11 := by simpa using hi
            obtain ⟨d05, d15, f05, f15⟩ := lies2 Lo5
            have O5 : Only w5.heap.size y5 (y5.setCell ⟨w5.heap.size, 1, none⟩ (.slice (some ⟨gg, 0, none⟩) (hs'.length + 1) cg)) := (Only.refl (w5.heap.size) y5).set (p := ⟨w5.heap.size, 1, none⟩) (.inl rfl) _
            have hggn : gg ≠ w5.heap.size := fun e => own_ne_box hown5 Lo5 (by rw [← e]; rfl)
            have hS6 : (fun w' : World => w'.cell? ⟨w1.heap.size, 1, none⟩ = some (.slice (some ⟨gh, 0, none⟩) N ch) ∧ w'.cell? ⟨gh, m, none⟩ = some (.slice (some ⟨gt, 0, none⟩) nt ct)) (y5.setCell ⟨w5.heap.size, 1, none⟩ (.slice (some ⟨gg, 0, none⟩) (hs'.length + 1) cg)) := ⟨(World.cell?_of_block (a := ⟨w1.heap.size, 1, none⟩) (O5.block w1.heap.size (by omega) (by have := hgr5.size; simp at this; omega))).trans hS5.1, (World.cell?_of_block (a := ⟨gh, m, none⟩) (O5.block gh (by omega) (by have := hgr5.size; simp at this; omega))).trans hS5.2⟩
            refine wpOp_now rfl (by rfl) ?_
            go_simp
            refine wpAnyH_done (by kernel_rfl) ?_ _
            simp only [Exit.then, Exit.inBlock]
            have keep5 : ∀ t : LoopT, t.in w6 → t.in (y5.setCell ⟨w5.heap.size, 1, none⟩ (.slice (some ⟨gg, 0, none⟩) (hs'.length + 1) cg)) := fun t ht => by
              have h5 := (ht.below B34).grown hgr5 (ht.ne_own hN3.2.1)
              exact h5.only O5 (h5.ne_box Lo5)
            have hr5 := own_only' hown5 O5 (fun e => hggn (Option.some.inj e))
            have hN4 : PlN w5.heap.size (y5.setCell ⟨w5.heap.size, 1, none⟩ (.slice (some ⟨gg, 0, none⟩) (hs'.length + 1) cg)) ⟨g1, n, c1, l.reverse⟩ (.slice (some ⟨gg, 0, none⟩) (hs'.length + 1) cg) (hs' ++ [(⟨g3, n3, c3, l3⟩ : LoopT)]) := by
              refine ⟨keep5 _ hN3.1, by simpa [LoopT.v] using hr5, fun t ht => ?_⟩
              rcases List.mem_append.1 ht with h | h
              · exact keep5 t (hN3.2.2 t h)
              · obtain rfl : t = ⟨g3, n3, c3, l3⟩ := by simpa using h
                exact keep5 _ hin3
            have L4 := lies_set1 (z := .slice (some ⟨gg, 0, none⟩) (hs'.length + 1) cg) Lo5
            have J5 := (((bw_trans hnx.drew J3).alloc (by omega) (.cells #[.slice (some ⟨g3, 0, none⟩) n3 c3] 23)).grown hgr5 (by simp; omega) (fun j e => by have := (hN3.2.1.lt j e).1; omega)).setCell (p := ⟨w5.heap.size, 1, none⟩) (Nat.le_refl _) (.slice (some ⟨gg, 0, none⟩) (hs'.length + 1) cg)
            clear hown5 hgr5 hat5 hlt5 keep5 hr5 O5 hN3 Lo3 Lo5 d03 d13 f03 f13 d05 d15 f05 f15 B34 hS3 hS4 hS5 hS6
            generalize y5.setCell ⟨w5.heap.size, 1, none⟩ (.slice (some ⟨gg, 0, none⟩) (hs'.length + 1) cg) = x4 at *
            obtain ⟨d0, d1, f0, f1⟩ := lies2 L4
            go_wp2_with fail
            go_roundw
            case rel =>
              refine ⟨k + 1, _, hs' ++ [(⟨g3, n3, c3, l3⟩ : LoopT)], by omega, by have e : (m : Int) - 1 = (N : Int) - 1 - ((k + 1 : Nat) : Int) := (by omega); rw [e], L4, hN4, by simp [Hkl.out], ?_, J5⟩
              rw [List.map_append, hmap, List.take_add_one, hmr]
              simp [← hl3]
            case measure => simp [intOf]
          · skip
            have B34 : Below w6.heap.size w6 (w6.alloc (.cells #[.slice (some ⟨g3, 0, none⟩) n3 c3] 23)) := (by repeat (first | exact bw_refl _ | assumption | apply bw_drewN | apply bw_drew | apply bw_alloc | refine bw_set ?_ (by simp) _))
            have hS4 : (fun w' : World => w'.cell? ⟨w1.heap.size, 1, none⟩ = some (.slice (some ⟨gh, 0, none⟩) N ch) ∧ w'.cell? ⟨gh, m, none⟩ = some (.slice (some ⟨gt, 0, none⟩) nt ct)) (w6.alloc (.cells #[.slice (some ⟨g3, 0, none⟩) n3 c3] 23)) := ⟨(B34.cell (p := ⟨w1.heap.size, 1, none⟩) (show w1.heap.size < w6.heap.size by omega)).trans hS3.1, (B34.cell (p := ⟨gh, m, none⟩) (show gh < w6.heap.size by omega)).trans hS3.2⟩
            refine wpOp_now rfl (by rfl) ?_
            go_simp
            refine wpAnyH_all (rs := [1]) (by kernel_rfl) (by simp) ?_
            intro i hi
            obtain rfl : i = 1 := by simpa using hi
            refine YieldsIf.wpOp (S := fun w' => w' = w6.alloc (.cells #[.slice (some ⟨g3, 0, none⟩) n3 c3] 23)) (v := hv') rfl (Or.inl ⟨by rfl, by rintro w' rfl; go_simp⟩) rfl ⟨hS4, ?_⟩
            refine wpAnyH_all (rs := [9]) (by kernel_rfl) (by simp) ?_
            intro i hi
            obtain rfl : i = 9 := by simpa using hi
            refine wpOp_now rfl (by rfl) ?_
            refine wp_append_lies _ _ _ _ (by rfl) w5.heap.size 23 i0 _ 1 24 Try.underlying24 hi0 hz0 hz1 hz2 rfl (by omega) _ hs'.length _ (by rfl) (hN3.2.1.alloc _) ⟨w6.heap.size, 0, none⟩ 1 1 [.slice (some ⟨g3, 0, none⟩) n3 c3] (by rfl) (by rfl) (World.news_of_block (cs := #[.slice (some ⟨g3, 0, none⟩) n3 c3]) (t := 23) (fr := (0, 0)) (heap_alloc_new w6 _)) (by simp [Value.oneCell']) (by omega) hmax (by omega) (by simp; omega) (w6.heap.size + 1) (by simp) ?_
            intro gg cg y5 hown5 hgr5 hat5 hlt5
            have Lo5 := lies_grown (Lo3.alloc _) hgr5 (fun e => own_ne_box hN3.2.1 Lo3 e.symm)
            have hS5 : (fun w' : World => w'.cell? ⟨w1.heap.size, 1, none⟩ = some (.slice (some ⟨gh, 0, none⟩) N ch) ∧ w'.cell? ⟨gh, m, none⟩ = some (.slice (some ⟨gt, 0, none⟩) nt ct)) y5 := ⟨(World.cell?_of_block (a := ⟨w1.heap.size, 1, none⟩) (hgr5.block w1.heap.size (by simp; omega) (fun e => own_ne_box hN3.2.1 PB3 e.symm))).trans hS4.1, (World.cell?_of_block (a := ⟨gh, m, none⟩) (hgr5.block gh (by simp; omega) (fun e => by have := (hN3.2.1.lt _ e.symm).1; omega))).trans hS4.2⟩
            refine ⟨hS5, ?_⟩
            simp only [Act.put, List.setIfInBounds_toArray]
            refine wpAnyH_take (i := 10) (v := .pointer (some ⟨w5.heap.size, 1, none⟩)) rfl (by kernel_rfl) (by kernel_rfl) (by kernel_rfl) (fun _ _ _ h => h) (Or.inl ⟨by rfl, by rintro w' ⟨s1, s2⟩; go_simp⟩) hS5 ?_
            refine wpAnyH_all (rs := [11]) (by kernel_rfl) (by simp) ?_
            intro i hi
            obtain rfl : i = 11 := by simpa using hi
            obtain ⟨d05, d15, f05, f15⟩ := lies2 Lo5
            have O5 : Only w5.heap.size y5 (y5.setCell ⟨w5.heap.size, 1, none⟩ (.slice (some ⟨gg, 0, none⟩) (hs'.length + 1) cg)) := (Only.refl (w5.heap.size) y5).set (p := ⟨w5.heap.size, 1, none⟩) (.inl rfl) _
            have hggn : gg ≠ w5.heap.size := fun e => own_ne_box hown5 Lo5 (by rw [← e]; rfl)
            have hS6 : (fun w' : World => w'.cell? ⟨w1.heap.size, 1, none⟩ = some (.slice (some ⟨gh, 0, none⟩) N ch) ∧ w'.cell? ⟨gh, m, none⟩ = some (.slice (some ⟨gt, 0, none⟩) nt ct)) (y5.setCell ⟨w5.heap.size, 1, none⟩ (.slice (some ⟨gg, 0, none⟩) (hs'.length + 1) cg)) := ⟨(World.cell?_of_block (a := ⟨w1.heap.size, 1, none⟩) (O5.block w1.heap.size (by omega) (by have := hgr5.size; simp at this; omega))).trans hS5.1, (World.cell?_of_block (a := ⟨gh, m, none⟩) (O5.block gh (by omega) (by have := hgr5.size; simp at this; omega))).trans hS5.2⟩
            refine wpOp_now rfl (by rfl) ?_
            go_simp
            refine wpAnyH_done (by kernel_rfl) ?_ _
            simp only [Exit.then, Exit.inBlock]
            have keep5 : ∀ t : LoopT, t.in w6 → t.in (y5.setCell ⟨w5.heap.size, 1, none⟩ (.slice (some ⟨gg, 0, none⟩) (hs'.length + 1) cg)) := fun t ht => by
              have h5 := (ht.below B34).grown hgr5 (ht.ne_own hN3.2.1)
              exact h5.only O5 (h5.ne_box Lo5)
            have hr5 := own_only' hown5 O5 (fun e => hggn (Option.some.inj e))
            have hN4 : PlN w5.heap.size (y5.setCell ⟨w5.heap.size, 1, none⟩ (.slice (some ⟨gg, 0, none⟩) (hs'.length + 1) cg)) ⟨g1, n, c1, l.reverse⟩ (.slice (some ⟨gg, 0, none⟩) (hs'.length + 1) cg) (hs' ++ [(⟨g3, n3, c3, l3⟩ : LoopT)]) := by
              refine ⟨keep5 _ hN3.1, by simpa [LoopT.v] using hr5, fun t ht => ?_⟩
              rcases List.mem_append.1 ht with h | h
              · exact keep5 t (hN3.2.2 t h)
              · obtain rfl : t = ⟨g3, n3, c3, l3⟩ := by simpa using h
                exact keep5 _ hin3
            have L4 := lies_set1 (z := .slice (some ⟨gg, 0, none⟩) (hs'.length + 1) cg) Lo5
            have J5 := (((bw_trans hnx.drew J3).alloc (by omega) (.cells #[.slice (some ⟨g3, 0, none⟩) n3 c3] 23)).grown hgr5 (by simp; omega) (fun j e => by have := (hN3.2.1.lt j e).1; omega)).setCell (p := ⟨w5.heap.size, 1, none⟩) (Nat.le_refl _) (.slice (some ⟨gg, 0, none⟩) (hs'.length + 1) cg)
            clear hown5 hgr5 hat5 hlt5 keep5 hr5 O5 hN3 Lo3 Lo5 d03 d13 f03 f13 d05 d15 f05 f15 B34 hS3 hS4 hS5 hS6
            generalize y5.setCell ⟨w5.heap.size, 1, none⟩ (.slice (some ⟨gg, 0, none⟩) (hs'.length + 1) cg) = x4 at *
            obtain ⟨d0, d1, f0, f1⟩ := lies2 L4
            go_wp2_with fail
            go_roundw
            case rel =>
              refine ⟨k + 1, _, hs' ++ [(⟨g3, n3, c3, l3⟩ : LoopT)], by omega, by have e : (m : Int) - 1 = (N : Int) - 1 - ((k + 1 : Nat) : Int) := (by omega); rw [e], L4, hN4, by simp [Hkl.out], ?_, J5⟩
              rw [List.map_append, hmap, List.take_add_one, hmr]
              simp [← hl3]
            case measure => simp [intOf]
end Go.Proofs.Ythedlopfjlnogaa
namespace Go.Proofs.Ythedlopfjlnogaa
open Go.ChangeShapes Go.WideShapes Go.ChangeAt Go.RowKit

theorem own : ownKnob Try.prog.godebug = none := by kernel_rfl
theorem laidOut : laidOutB Try.prog = true := by kernel_rfl
end Go.Proofs.Ythedlopfjlnogaa
namespace Go.Proofs.Ythedlopfjlnogaa
open Go.ChangeShapes Go.WideShapes Go.ChangeAt Go.RowKit Go.Joins
open Go.ChangeMaps (open_string shut_string)

set_option maxRecDepth 100000 in
theorem fnPlateOver_lifted (os : Os) (started : os.Started) (H : Type) (enc : TypeId × Value → H) :
    ReturnsInHanded {} Try.checked os 3 .any (Rows.fnPlateOverSpec.pre6 enc Try.prog Try.f3 Rows.fnPlateOverRow.domain false) (Rows.fnPlateOverSpec.post enc Try.prog Try.f3 false true false false) := by
  refine returnsInHanded_of_change (C := Try.checked) own started (by kernel_rfl) Try.func3
    (ChangeSpec.witness6 (enc := enc) (C := Try.checked) false ⟨#[], #[.slice none 0 0], []⟩ 8 (by kernel_rfl) (by kernel_rfl) (by kernel_rfl) (by kernel_rfl)) ?_
  intro W base args ds gs before hval0 hW _ _
  have hval : ∀ (j : Nat) t v, Try.f3.params[j]? = some t → args[j]? = some v → Value.okWide Try.prog W .any base t v := hval0
  have hW' := hW
  obtain ⟨p, q, hA0, hV, rfl, hfz, hnd⟩ := hW
  have hA : DataW.TrodAll enc Try.prog W 0 (fun _ => true) true Try.f3.params.toList args.toList ds p := hA0
  rw [Try.params3] at hA hval
  obtain ⟨v0, vs0, d0, ds0, p0, q0, hargs, rfl, rfl, h0, r0⟩ := trodAll_cons hA
  obtain ⟨rfl, rfl, rfl⟩ := trodAll_nil r0
  obtain rfl : args = #[v0] := by cases args; simp_all
  obtain ⟨rfl, rfl⟩ := trodVars_none hV
  have k0 := h0
  have lt0 : ∀ x ∈ p0, x.block < W.heap.size := by obtain ⟨m, hm⟩ := k0; exact DataW.trod_lt m _ _ _ hm
  obtain ⟨a0, len0, cap0, rfl⟩ := okWide_slice Try.underlying22 (hval 0 22 v0 rfl rfl)
  obtain ⟨z0, w0⟩ : ∃ zs, IsRow .u8 W a0 len0 cap0 zs := by
    obtain ⟨fuel, hf⟩ := h0
    rcases open_ints Try.underlying22 Try.underlying5 (by kernel_rfl) hf with ⟨hcs, _⟩ | ⟨x, l, c, zs, hcs, _, hl, hm, hz, _, hcell, hwz⟩
    · simp [Value.cells] at hcs
      obtain ⟨rfl, rfl, rfl⟩ := hcs
      exact ⟨[], .inl ⟨rfl, rfl, rfl, rfl⟩⟩
    · simp [Value.cells] at hcs
      obtain ⟨rfl, rfl, rfl⟩ := hcs
      exact ⟨zs, .inr ⟨_, rfl, hl, hm, by simpa using hz, hcell, hwz⟩⟩
  clear hA0 hval0
  refine (plateOver_walk W a0 len0 cap0 z0 w0).mono fun e W' ⟨he, bel⟩ => ?_
  subst he
  exact ⟨_, rfl, _, _, _, [], _, [], hW', trodAll_mk1 (shut_bool Try.underlying4 _), (trodAll_cons_mk (Below.trod laidOut (by kernel_rfl) (of_decide_eq_true (by kernel_rfl)) k0 bel lt0) trodAll_mk0), rfl, bel.frame _, fun h => by cases h⟩

theorem fnPlateOver_said : Rows.FnPlateOverSaid :=
  OpenClaim.holds_of_wide 3 Try.f3 rfl rfl rfl rfl rfl rfl rfl ⟨rfl, rfl, rfl, rfl, rfl⟩ rfl rfl rfl rfl rfl (by kernel_rfl) Try.func3 (by kernel_rfl)
    (of_decide_eq_true (by kernel_rfl)) (by unfold Func.isWrapper; first | (rw [if_pos (by decide +kernel)]; kernel_rfl) | (rw [if_neg (by decide +kernel)]; exact ⟨rfl, rfl⟩))
    (fun os started H enc _ => fnPlateOver_lifted os started H enc)

end Go.Proofs.Ythedlopfjlnogaa
