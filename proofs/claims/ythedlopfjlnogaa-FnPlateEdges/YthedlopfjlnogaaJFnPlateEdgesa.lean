/-
  OUR OWN TEXT. The law FnPlateEdges, for every input: the call returns true, and each argument reads as it did. Texts of ours, joined, so that the claim keeps to its number of files. Conditions: none but the row's own.
-/
import Derived.Test.YthedlopfjlnogaaDrawLoop
import Derived.Test.YthedlopfjlnogaaDrawPlate2
import Derived.Test.YthedlopfjlnogaaBoard
import Derived.Test.YthedlopfjlnogaaBoxes
import Derived.Test.YthedlopfjlnogaaSPlateOk
import Derived.Test.YthedlopfjlnogaaPlateI
import Derived.Test.YthedlopfjlnogaaWhere
import Derived.RangeFuncNested
import Derived.Test.YthedlopfjlnogaaEdgeK
import Derived.Test.YthedlopfjlnogaaEqPts
import Derived.Test.YthedlopfjlnogaaSEdge
import Derived.Test.YthedlopfjlnogaaReader
import Derived.Test.YthedlopfjlnogaaSOk
import Derived.Test.YthedlopfjlnogaaEdgeS
import Derived.Test.YthedlopfjlnogaaRings
import Derived.Test.YthedlopfjlnogaaFree
import Derived.Test.YthedlopfjlnogaaOk
import Derived.Deep.DeepAppendWide
import Derived.Test.YthedlopfjlnogaaRows
import Derived.ProofKit
import Derived.OpenShut
import Derived.ShutString
import Derived.ChangeOld
import Derived.Below
import Derived.Lib.SmallJoins
namespace Go.Proofs.Ythedlopfjlnogaa
open Go.RowKit

theorem boxes1' (w : World) (o : Obj) : ∃ W, W = w.alloc o ∧ Below w.heap.size w W ∧ W.heap[w.heap.size]? = some o := ⟨_, rfl, (by repeat (first | exact bw_refl _ | assumption | apply bw_drewN | apply bw_drew | apply bw_alloc | refine bw_set ?_ (by simp) _)), heap_new _ _⟩
/-- A loop that was drawn: points of our own memory. -/
def Loopy (base : Nat) (w' : World) (v : Value) (l : List P2) (n : Nat) : Prop :=
  ∃ (g c : Nat), v = .slice (some ⟨g, 0, none⟩) n c ∧ 3 ≤ n ∧ n ≤ 7 ∧ l.length = n ∧ n ≤ c ∧ c ≤ maxLen ∧ base ≤ g ∧ PtBlk w' g c l n
theorem Loopy.below {base : Nat} {w w' : World} {v : Value} {l : List P2} {n : Nat} (h : Loopy base w v l n) (J : Below w.heap.size w w') : Loopy base w' v l n := by
  obtain ⟨g, c, e, h1, h2, h3, h4, h5, h6, h7⟩ := h
  exact ⟨g, c, e, h1, h2, h3, h4, h5, h6, h7.below J⟩
theorem PtBlk.pts' {W : World} {g c n : Nat} {l : List P2} (h : PtBlk W g c l n) (hl : l.length = n) : Pts W.heap.size W (some ⟨g, 0, none⟩) n l := by
  have hg := h.lt
  obtain ⟨cur, h, hs, hc⟩ := h
  refine ⟨hl, .inr ⟨g, 0, rfl, hg, fun j hj => ?_⟩⟩
  rw [Nat.zero_add, row_cell h, row_cell h]; exact hc j hj
end Go.Proofs.Ythedlopfjlnogaa
namespace Go.Proofs.Ythedlopfjlnogaa
open Go.RowKit

theorem PlD.set {base b i : Nat} {W : World} {o : LoopT} {hv : Value} {hs : List LoopT} (h : PlD base W o hv hs) (hb : b < base) (v : Value) : PlD base (W.setCell ⟨b, i, none⟩ v) o hv hs :=
  h.only ((Only.refl b W).set (p := ⟨b, i, none⟩) (.inl rfl) v) hb
set_option maxRecDepth 100000 in
set_option maxHeartbeats 2000000 in
theorem drawPlateIn_any {a : Option Addr} {len0 cap : Nat} {zs : List Int} (w0 w : World) (h : IsRow .u8 w0 a len0 cap zs) (hb : Below w0.heap.size w0 w) :
    Calls Try.prog 16 #[.slice a len0 cap] w fun e w' => ∃ (o : LoopT) (hv : Value) (hs : List LoopT) (x y : Int), e = .returned (.tuple #[.agg #[o.v, hv], .agg #[.int .i64 x, .int .i64 y]]) ∧ PB x y ∧ PlD w.heap.size w' o hv hs ∧ (hs.length ≤ 3 ∧ Seat hv) ∧ Below w.heap.size w w' := by
  obtain ⟨W, hW, BW, T, T2⟩ := boxes2 w (.cells #[.slice none 0 0, .slice none 0 0] 26) (.cells #[.int .i64 0, .int .i64 0] 33)
  go_enter Try.func16, Try.ntmps16
  go_wp2_with fail
  rw [← hW]
  clear hW
  refine (open_rd w0 _ h (bw_trans hb BW)).mono ?_
  rintro e w1 ⟨len, rfl, R, hb1⟩
  have zT := blk_lt T
  have zT2 := blk_lt T2
  replace T := keep hb1 T
  replace T2 := keep hb1 T2
  have K := bw_trans BW hb1
  have z1 := hb1.size
  have zr := R.lt
  clear hb1 BW
  go_wp2_with fail
  refine (plate_any 0 a len cap _ _ (by omega) R).mono ?_
  clear R
  rintro e w2 ⟨⟨g, n, c, l⟩, hv, hs, k2, he, hD, ⟨hs3, hst⟩, hk2, R, P⟩
  obtain rfl : e = .returned (.agg #[.slice (some ⟨g, 0, none⟩) n c, hv]) := he
  replace T := keepO P T (by omega)
  replace T2 := keepO P T2 (by omega)
  have KK := K.trans (P.below' (B := w.heap.size) (by omega) (by omega))
  go_wp2_with fail
  refine (l71Pt_any k2 a len cap _ _ (by omega) R).mono ?_
  clear R
  rintro e w3 ⟨x, y, k3, rfl, hPB, hk3, R, O⟩
  replace T := keepO O T (by omega)
  replace T2 := keepO O T2 (by omega)
  replace hD := hD.only O (by omega)
  replace KK := KK.trans (O.below' (B := w.heap.size) (by omega) (by have := KK.size; omega))
  obtain ⟨gh, ch, rfl⟩ : ∃ gh ch, hv = .slice (some ⟨gh, 0, none⟩) hs.length ch := own_seat hD.2.2.1 hst
  obtain ⟨a0, a1, af0, af1⟩ := blk2 T
  obtain ⟨b0, b1, bf0, bf1⟩ := blk2 T2
  go_wp2_with fail
  have T' := set_oth (b := w.heap.size + 1) (i := 1) (v := .int .i64 y) (set_oth (b := w.heap.size + 1) (i := 0) (v := .int .i64 x) (setB2 (u0 := .slice (some ⟨g, 0, none⟩) n c) (u1 := .slice (some ⟨gh, 0, none⟩) hs.length ch) T) (by omega)) (by omega)
  have T2' := setB2 (u0 := .int .i64 x) (u1 := .int .i64 y) (set_oth (b := w.heap.size) (i := 1) (v := .slice (some ⟨gh, 0, none⟩) hs.length ch) (set_oth (b := w.heap.size) (i := 0) (v := .slice (some ⟨g, 0, none⟩) n c) T2 (by omega)) (by omega))
  obtain ⟨v0, v1, _, _⟩ := blk2 T'
  obtain ⟨v2, v3, _, _⟩ := blk2 T2'
  refine bodyPost_ret (v := .tuple #[.agg #[.slice (some ⟨g, 0, none⟩) n c, .slice (some ⟨gh, 0, none⟩) hs.length ch], .agg #[.int .i64 x, .int .i64 y]]) (by simp [results, Try.results16, go_sem, v0, v1, v2, v3]) rfl ?_
  refine ⟨⟨g, n, c, l⟩, _, hs, x, y, rfl, hPB, ((((hD.set (by omega) _).set (by omega) _).set (by omega) _).set (by omega) _).mono (by omega), ⟨hs3, hst⟩, ?_⟩
  exact (((KK.setCell (p := ⟨w.heap.size, 0, none⟩) (Nat.le_refl _) _).setCell (p := ⟨w.heap.size, 1, none⟩) (Nat.le_refl _) _).setCell (p := ⟨w.heap.size + 1, 0, none⟩) (Nat.le_succ _) _).setCell (p := ⟨w.heap.size + 1, 1, none⟩) (Nat.le_succ _) _
set_option maxRecDepth 100000 in
set_option maxHeartbeats 2000000 in
theorem drawPlateEdges_any {a : Option Addr} {len0 cap : Nat} {zs : List Int} (w0 w : World) (h : IsRow .u8 w0 a len0 cap zs) (hb : Below w0.heap.size w0 w) :
    Calls Try.prog 22 #[.slice a len0 cap] w fun e w' => ∃ (o : LoopT) (hv : Value) (hs : List LoopT), e = .returned (.agg #[o.v, hv]) ∧ PlD w.heap.size w' o hv hs ∧ (hs.length ≤ 3 ∧ Seat hv) ∧ Below w.heap.size w w' := by
  obtain ⟨W, hW, BW, T⟩ := boxes1' w (.cells #[.slice none 0 0, .slice none 0 0] 26)
  go_enter Try.func22, Try.ntmps22
  go_wp2_with fail
  rw [← hW]
  clear hW
  refine (open_rd w0 _ h (bw_trans hb BW)).mono ?_
  rintro e w1 ⟨len, rfl, R, hb1⟩
  have zT := blk_lt T
  replace T := keep hb1 T
  have K := bw_trans BW hb1
  have z1 := hb1.size
  have zr := R.lt
  clear hb1 BW
  go_wp2_with fail
  refine (plate_any 0 a len cap _ _ (by omega) R).mono ?_
  clear R
  rintro e w2 ⟨⟨g, n, c, l⟩, hv, hs, k2, he, hD, ⟨hs3, hst⟩, hk2, R, P⟩
  obtain rfl : e = .returned (.agg #[.slice (some ⟨g, 0, none⟩) n c, hv]) := he
  replace T := keepO P T (by omega)
  have KK := K.trans (P.below' (B := w.heap.size) (by omega) (by omega))
  obtain ⟨gh, ch, rfl⟩ : ∃ gh ch, hv = .slice (some ⟨gh, 0, none⟩) hs.length ch := own_seat hD.2.2.1 hst
  obtain ⟨a0, a1, af0, af1⟩ := blk2 T
  go_wp2_with fail
  have T' := setB2 (u0 := .slice (some ⟨g, 0, none⟩) n c) (u1 := .slice (some ⟨gh, 0, none⟩) hs.length ch) T
  obtain ⟨v0, v1, _, _⟩ := blk2 T'
  refine bodyPost_ret (v := .agg #[.slice (some ⟨g, 0, none⟩) n c, .slice (some ⟨gh, 0, none⟩) hs.length ch]) (by simp [results, Try.results22, go_sem, v0, v1]) rfl ?_
  exact ⟨⟨g, n, c, l⟩, _, hs, rfl, ((hD.set (by omega) _).set (by omega) _).mono (by omega), ⟨hs3, hst⟩, (KK.setCell (p := ⟨w.heap.size, 0, none⟩) (Nat.le_refl _) _).setCell (p := ⟨w.heap.size, 1, none⟩) (Nat.le_refl _) _⟩
set_option maxRecDepth 100000 in
set_option maxHeartbeats 8000000 in
theorem drawPlateOk_any {a : Option Addr} {len0 cap : Nat} {zs : List Int} (w0 w : World) (h : IsRow .u8 w0 a len0 cap zs) (hb : Below w0.heap.size w0 w) :
    Calls Try.prog 10 #[.slice a len0 cap] w fun e w' => ∃ (o : LoopT) (hv : Value) (hs : List LoopT), e = .returned (.agg #[o.v, hv]) ∧ PlD w.heap.size w' o hv hs ∧ (hs.length ≤ 4 ∧ Seat hv) ∧ Below w.heap.size w w' := by
  obtain ⟨i0, hi0, hz0, hz1, hz2⟩ := info_parts Try.infoPts
  obtain ⟨W, hW, BW, T⟩ := boxes1' w (.cells #[.slice none 0 0, .slice none 0 0] 26)
  go_enter Try.func10, Try.ntmps10
  go_wp2_with fail
  rw [← hW]
  clear hW
  refine (open_rd w0 _ h (bw_trans hb BW)).mono ?_
  rintro e wb ⟨len, rfl, R, hb1⟩
  have zT := blk_lt T
  have Z : Lies w.heap.size #[.slice none 0 0, .slice none 0 0] 26 wb := keep hb1 T
  have K := bw_trans BW hb1
  have z1 := hb1.size
  have hlt := R.lt
  clear hb1 BW T
  generalize W.heap.size = r at *
  go_wp2_with fail
  refine (plate_any 0 a len cap r _ (by omega) R).mono ?_
  clear R
  rintro e w1 ⟨⟨g, n, c, l⟩, hv, hs, k1, he, hD, ⟨hs2, hst⟩, hk1, R, P⟩
  obtain rfl : e = .returned (.agg #[.slice (some ⟨g, 0, none⟩) n c, hv]) := he
  obtain ⟨gh, ch, rfl⟩ : ∃ gh ch, hv = .slice (some ⟨gh, 0, none⟩) hs.length ch := own_seat hD.2.2.1 hst
  replace Z : Lies w.heap.size #[.slice none 0 0, .slice none 0 0] 26 w1 := keepO P Z (by omega)
  have zw1 := P.size
  have Bq : Below w1.heap.size w1 (w1.alloc (.cells #[.slice (some ⟨g, 0, none⟩) n c, .slice (some ⟨gh, 0, none⟩) hs.length ch] 26)) := (by repeat (first | exact bw_refl _ | assumption | apply bw_drewN | apply bw_drew | apply bw_alloc | refine bw_set ?_ (by simp) _))
  have Lp : Lies w1.heap.size #[.slice (some ⟨g, 0, none⟩) n c, .slice (some ⟨gh, 0, none⟩) hs.length ch] 26 (w1.alloc (.cells #[.slice (some ⟨g, 0, none⟩) n c, .slice (some ⟨gh, 0, none⟩) hs.length ch] 26)) := Lies.new w1 _ _
  have hgs : ∀ t ∈ hs, t.g < w1.heap.size := fun t ht => (hD.2.2.2 t ht).lt
  have hgw : g < w1.heap.size := hD.1.lt
  have hghw : gh < w1.heap.size := (hD.2.2.1.lt gh rfl).2
  have hghb : wb.heap.size ≤ gh := (hD.2.2.1.lt gh rfl).1
  replace R := R.below Bq
  replace P := P.trans (Only.of_below Bq)
  replace Z := Z.below Bq
  replace hD := hD.below Bq
  clear Bq
  go_wp2_with fail
  refine (pick_rd 4 k1 a len cap r _ (by omega) (by omega) R).mono ?_
  clear R
  rintro e w2 ⟨q, rfl, qa, qb, R, O⟩
  replace P := P.trans O
  replace Z : Lies w.heap.size #[.slice none 0 0, .slice none 0 0] 26 w2 := keepO O Z (by omega)
  replace Lp : Lies w1.heap.size #[.slice (some ⟨g, 0, none⟩) n c, .slice (some ⟨gh, 0, none⟩) hs.length ch] 26 w2 := keepO O Lp (by omega)
  replace hD := hD.only O (by omega)
  clear O
  obtain ⟨d0, d1, f0, f1⟩ := lies2 Lp
  obtain ⟨y0, y1, yf0, yf1⟩ := lies2 Z
  have z2 := Lp.lt
  have hmx : Try.prog.follows .mixedOrders = true := by kernel_rfl
  have hmax : hs.length + 1 ≤ maxLen := by simp [maxLen]; omega
  by_cases hq : q = 0
  case neg =>
    have e0 : (q == 0) = false := by simpa using hq
    have KK := K.trans (P.below' (B := w.heap.size) (by omega) (by omega))
    have Z1 := setB2 (u0 := .slice (some ⟨g, 0, none⟩) n c) (u1 := .slice (some ⟨gh, 0, none⟩) hs.length ch) Z
    obtain ⟨v0, v1, _, _⟩ := lies2 Z1
    go_wp2_with fail
    refine bodyPost_ret (v := .agg #[.slice (some ⟨g, 0, none⟩) n c, .slice (some ⟨gh, 0, none⟩) hs.length ch]) (by simp [results, Try.results10, go_sem, v0, v1]) rfl ?_
    exact ⟨⟨g, n, c, l⟩, _, hs, rfl, ((hD.set (by omega) _).set (by omega) _).mono (by omega), ⟨by omega, hst⟩, (KK.setCell (p := ⟨w.heap.size, 0, none⟩) (Nat.le_refl _) _).setCell (p := ⟨w.heap.size, 1, none⟩) (Nat.le_refl _) _⟩
  case pos =>
    subst hq
    have hX := loop_any (k1 + 1) a len cap r w2.drew (by omega) R.drew
    have PD := P.drew
    have ZD : Lies w.heap.size #[.slice none 0 0, .slice none 0 0] 26 w2.drew := Z
    have LpD : Lies w1.heap.size #[.slice (some ⟨g, 0, none⟩) n c, .slice (some ⟨gh, 0, none⟩) hs.length ch] 26 w2.drew := Lp
    have hDD : PlD wb.heap.size w2.drew ⟨g, n, c, l⟩ (.slice (some ⟨gh, 0, none⟩) hs.length ch) hs := hD.below (bw_drew (bw_refl _))
    go_wp2_with fail
    refine wp_region_held (S := fun _ => True) hmx ?_
    refine wpAnyH_take (i := 0) (v := .pointer (some ⟨w1.heap.size, 1, none⟩)) rfl (by kernel_rfl) (by kernel_rfl) (by kernel_rfl) (fun _ _ _ h => h) (Or.inl ⟨by rfl, by intro w' _; go_simp⟩) trivial ?_
    refine wpAnyH_take (i := 2) (v := .pointer (some ⟨r, 0, none⟩)) rfl (by kernel_rfl) (by kernel_rfl) (by kernel_rfl) (fun _ _ _ h => h) (Or.inl ⟨by rfl, by intro w' _; go_simp⟩) trivial ?_
    refine wpAnyH_all (rs := [1, 3]) (by kernel_rfl) (by simp) ?_
    intro i hi
    have hi' : i = 1 ∨ i = 3 := by simpa using hi
    clear hi
    rcases hi' with rfl | rfl
    · skip
      refine YieldsIf.wpOp (S := fun w' => w' = w2.drew) (v := .slice (some ⟨gh, 0, none⟩) hs.length ch) rfl (Or.inl ⟨by rfl, by rintro w' rfl; go_simp⟩) rfl ⟨trivial, ?_⟩
      refine wpAnyH_all (rs := [3]) (by kernel_rfl) (by simp) ?_
      intro i hi
      obtain rfl : i = 3 := by simpa using hi
      refine wpOp_now rfl (by rfl) ?_
      go_simp
      refine hX.mono ?_
      rintro e w3 ⟨g3, n3, c3, l3, k3, rfl, h3, h7, hl3, hc3, hm3, hb3, hB3, hk3, R3, O3⟩
      have P3 := PD.trans O3
      have Z3 : Lies w.heap.size #[.slice none 0 0, .slice none 0 0] 26 w3 := keepO O3 ZD (by omega)
      have Lp3 : Lies w1.heap.size #[.slice (some ⟨g, 0, none⟩) n c, .slice (some ⟨gh, 0, none⟩) hs.length ch] 26 w3 := keepO O3 LpD (by omega)
      have hD3 := hDD.only O3 (by omega)
      obtain ⟨d03, d13, f03, f13⟩ := lies2 Lp3
      have zz3 := Lp3.lt
      have zr3 := R3.lt
      have zg3 := hB3.lt
      have hb3' : w2.heap.size ≤ g3 := hb3
      refine wpAnyH_all (rs := [4]) (by kernel_rfl) (by simp) ?_
      intro i hi
      obtain rfl : i = 4 := by simpa using hi
      refine wpOp_now rfl (by rfl) ?_
      go_simp
      refine wpAnyH_all (rs := [5]) (by kernel_rfl) (by simp) ?_
      intro i hi
      obtain rfl : i = 5 := by simpa using hi
      refine wpOp_now rfl (by rfl) ?_
      refine wp_append_lies _ _ _ _ (by rfl) wb.heap.size 23 i0 _ 1 24 Try.underlying24 hi0 hz0 hz1 hz2 rfl (by omega) _ hs.length _ (by rfl) (hD3.2.2.1.alloc _) ⟨w3.heap.size, 0, none⟩ 1 1 [.slice (some ⟨g3, 0, none⟩) n3 c3] (by rfl) (by rfl) (World.news_of_block (cs := #[.slice (some ⟨g3, 0, none⟩) n3 c3]) (t := 23) (fr := (0, 0)) (heap_alloc_new w3 _)) (by simp [Value.oneCell']) (by omega) hmax (by omega) (by simp; omega) (w3.heap.size + 1) (by simp) ?_
      intro gg cg w5 hown5 hgr5 hat5 hlt5
      refine ⟨trivial, ?_⟩
      simp only [Act.put, List.setIfInBounds_toArray]
      refine wpAnyH_take (i := 6) (v := .pointer (some ⟨w1.heap.size, 1, none⟩)) rfl (by kernel_rfl) (by kernel_rfl) (by kernel_rfl) (fun _ _ _ h => h) (Or.inl ⟨by rfl, by intro w' _; go_simp⟩) trivial ?_
      refine wpAnyH_all (rs := [7]) (by kernel_rfl) (by simp) ?_
      intro i hi
      obtain rfl : i = 7 := by simpa using hi
      have Bq : Below w3.heap.size w3 (w3.alloc (.cells #[.slice (some ⟨g3, 0, none⟩) n3 c3] 23)) := (by repeat (first | exact bw_refl _ | assumption | apply bw_drewN | apply bw_drew | apply bw_alloc | refine bw_set ?_ (by simp) _))
      have Lp5 := lies_grown (Lp3.alloc _) hgr5 (fun e => by have e' : w1.heap.size = gh := Option.some.inj e; omega)
      have Z5' := lies_grown (Z3.alloc _) hgr5 (fun e => by have e' : w.heap.size = gh := Option.some.inj e; omega)
      obtain ⟨d05, d15, f05, f15⟩ := lies2 Lp5
      refine wpOp_now rfl (by rfl) ?_
      go_simp
      refine wpAnyH_done (by kernel_rfl) ?_ _
      simp only [Exit.then]
      have hne3 : ∀ t : LoopT, t.ok wb.heap.size w3 → some t.g ≠ Value.ownBlock (.slice (some ⟨gh, 0, none⟩) hs.length ch) := fun t ht e => by obtain ⟨_, _, _, _, _, _, h7⟩ := ht; exact blk_ne_own h7 hD3.2.2.1 (Option.some.inj e)
      have hggn : gg ≠ w1.heap.size := hat5.elim (fun e => by have e' : gh = gg := Option.some.inj e; omega) (fun e => by omega)
      have O5 : Only w1.heap.size w5 (w5.setCell ⟨w1.heap.size, 1, none⟩ (.slice (some ⟨gg, 0, none⟩) (hs.length + 1) cg)) := (Only.refl w1.heap.size w5).set (.inl rfl) _
      have keep5 : ∀ t : LoopT, t.ok wb.heap.size w3 → t.g ≠ w1.heap.size → t.ok wb.heap.size (w5.setCell ⟨w1.heap.size, 1, none⟩ (.slice (some ⟨gg, 0, none⟩) (hs.length + 1) cg)) := fun t ht hne => ((ht.below Bq).grown hgr5 (hne3 t ht)).only' O5 hne
      have hr5 := own_only' hown5 O5 (fun e => hggn (Option.some.inj e))
      have hD4 : PlD wb.heap.size (w5.setCell ⟨w1.heap.size, 1, none⟩ (.slice (some ⟨gg, 0, none⟩) (hs.length + 1) cg)) ⟨g, n, c, l⟩ (.slice (some ⟨gg, 0, none⟩) (hs.length + 1) cg) (hs ++ [(⟨g3, n3, c3, l3⟩ : LoopT)]) := by
        refine ⟨keep5 _ hD3.1 (by show g ≠ _; omega), by simp; omega, by simpa [LoopT.v] using hr5, fun t ht => ?_⟩
        rcases List.mem_append.1 ht with h | h
        · exact keep5 t (hD3.2.2.2 t h) (Nat.ne_of_lt (hgs t h))
        · obtain rfl : t = ⟨g3, n3, c3, l3⟩ := by simpa using h
          exact keep5 _ ⟨h3, by show n3 ≤ 8; omega, hl3, hc3, hm3, by show wb.heap.size ≤ g3; omega, hB3⟩ (by show g3 ≠ _; omega)
      have P4 := ((P3.trans (Only.of_below Bq)).grown hgr5 (fun j e => by have e' : gh = j := Option.some.inj e; omega)).set (p := ⟨w1.heap.size, 1, none⟩) (.inr (by show wb.heap.size ≤ w1.heap.size; omega)) (.slice (some ⟨gg, 0, none⟩) (hs.length + 1) cg)
      have KK := K.trans (P4.below' (B := w.heap.size) (by omega) (by omega))
      have L4 := lies_set1 (z := .slice (some ⟨gg, 0, none⟩) (hs.length + 1) cg) Lp5
      have Z4 : Lies w.heap.size #[.slice none 0 0, .slice none 0 0] 26 (w5.setCell ⟨w1.heap.size, 1, none⟩ (.slice (some ⟨gg, 0, none⟩) (hs.length + 1) cg)) := set_oth Z5' (by omega)
      clear hown5 hgr5 hat5 hlt5 keep5 hr5 O5 hne3 hD3 Lp3 Z3 R3 P3 Lp5 Z5' d03 d13 f03 f13 d05 d15 f05 f15 Bq hB3 O3 hX PD ZD LpD hDD
      generalize w5.setCell ⟨w1.heap.size, 1, none⟩ (.slice (some ⟨gg, 0, none⟩) (hs.length + 1) cg) = x4 at *
      clear y0 y1 yf0 yf1 d0 d1 f0 f1
      obtain ⟨d0, d1, f0, f1⟩ := lies2 L4
      obtain ⟨y0, y1, yf0, yf1⟩ := lies2 Z4
      have Z5 := setB2 (u0 := .slice (some ⟨g, 0, none⟩) n c) (u1 := .slice (some ⟨gg, 0, none⟩) (hs.length + 1) cg) Z4
      obtain ⟨v0, v1, _, _⟩ := lies2 Z5
      go_wp2_with fail
      refine bodyPost_ret (v := .agg #[.slice (some ⟨g, 0, none⟩) n c, .slice (some ⟨gg, 0, none⟩) (hs.length + 1) cg]) (by simp [results, Try.results10, go_sem, v0, v1]) rfl ?_
      exact ⟨⟨g, n, c, l⟩, _, hs ++ [(⟨g3, n3, c3, l3⟩ : LoopT)], rfl, ((hD4.set (by omega) _).set (by omega) _).mono (by omega), ⟨by simp; omega, ⟨_, _, _, rfl⟩⟩, (KK.setCell (p := ⟨w.heap.size, 0, none⟩) (Nat.le_refl _) _).setCell (p := ⟨w.heap.size, 1, none⟩) (Nat.le_refl _) _⟩
    · skip
      refine wpOp_now rfl (by rfl) ?_
      go_simp
      refine hX.mono ?_
      rintro e w3 ⟨g3, n3, c3, l3, k3, rfl, h3, h7, hl3, hc3, hm3, hb3, hB3, hk3, R3, O3⟩
      have P3 := PD.trans O3
      have Z3 : Lies w.heap.size #[.slice none 0 0, .slice none 0 0] 26 w3 := keepO O3 ZD (by omega)
      have Lp3 : Lies w1.heap.size #[.slice (some ⟨g, 0, none⟩) n c, .slice (some ⟨gh, 0, none⟩) hs.length ch] 26 w3 := keepO O3 LpD (by omega)
      have hD3 := hDD.only O3 (by omega)
      obtain ⟨d03, d13, f03, f13⟩ := lies2 Lp3
      have zz3 := Lp3.lt
      have zr3 := R3.lt
      have zg3 := hB3.lt
      have hb3' : w2.heap.size ≤ g3 := hb3
      refine wpAnyH_all (rs := [1, 4]) (by kernel_rfl) (by simp) ?_
      intro i hi
      have hi' : i = 1 ∨ i = 4 := by simpa using hi
      clear hi
      rcases hi' with rfl | rfl
      · skip
        refine YieldsIf.wpOp (S := fun w' => w' = w3) (v := .slice (some ⟨gh, 0, none⟩) hs.length ch) rfl (Or.inl ⟨by rfl, by rintro w' rfl; go_simp⟩) rfl ⟨trivial, ?_⟩
        refine wpAnyH_all (rs := [4]) (by kernel_rfl) (by simp) ?_
        intro i hi
        obtain rfl : i = 4 := by simpa using hi
        refine wpOp_now rfl (by rfl) ?_
        go_simp
        refine wpAnyH_all (rs := [5]) (by kernel_rfl) (by simp) ?_
        intro i hi
        obtain rfl : i = 5 := by simpa using hi
        refine wpOp_now rfl (by rfl) ?_
        refine wp_append_lies _ _ _ _ (by rfl) wb.heap.size 23 i0 _ 1 24 Try.underlying24 hi0 hz0 hz1 hz2 rfl (by omega) _ hs.length _ (by rfl) (hD3.2.2.1.alloc _) ⟨w3.heap.size, 0, none⟩ 1 1 [.slice (some ⟨g3, 0, none⟩) n3 c3] (by rfl) (by rfl) (World.news_of_block (cs := #[.slice (some ⟨g3, 0, none⟩) n3 c3]) (t := 23) (fr := (0, 0)) (heap_alloc_new w3 _)) (by simp [Value.oneCell']) (by omega) hmax (by omega) (by simp; omega) (w3.heap.size + 1) (by simp) ?_
        intro gg cg w5 hown5 hgr5 hat5 hlt5
        refine ⟨trivial, ?_⟩
        simp only [Act.put, List.setIfInBounds_toArray]
        refine wpAnyH_take (i := 6) (v := .pointer (some ⟨w1.heap.size, 1, none⟩)) rfl (by kernel_rfl) (by kernel_rfl) (by kernel_rfl) (fun _ _ _ h => h) (Or.inl ⟨by rfl, by intro w' _; go_simp⟩) trivial ?_
        refine wpAnyH_all (rs := [7]) (by kernel_rfl) (by simp) ?_
        intro i hi
        obtain rfl : i = 7 := by simpa using hi
        have Bq : Below w3.heap.size w3 (w3.alloc (.cells #[.slice (some ⟨g3, 0, none⟩) n3 c3] 23)) := (by repeat (first | exact bw_refl _ | assumption | apply bw_drewN | apply bw_drew | apply bw_alloc | refine bw_set ?_ (by simp) _))
        have Lp5 := lies_grown (Lp3.alloc _) hgr5 (fun e => by have e' : w1.heap.size = gh := Option.some.inj e; omega)
        have Z5' := lies_grown (Z3.alloc _) hgr5 (fun e => by have e' : w.heap.size = gh := Option.some.inj e; omega)
        obtain ⟨d05, d15, f05, f15⟩ := lies2 Lp5
        refine wpOp_now rfl (by rfl) ?_
        go_simp
        refine wpAnyH_done (by kernel_rfl) ?_ _
        simp only [Exit.then]
        have hne3 : ∀ t : LoopT, t.ok wb.heap.size w3 → some t.g ≠ Value.ownBlock (.slice (some ⟨gh, 0, none⟩) hs.length ch) := fun t ht e => by obtain ⟨_, _, _, _, _, _, h7⟩ := ht; exact blk_ne_own h7 hD3.2.2.1 (Option.some.inj e)
        have hggn : gg ≠ w1.heap.size := hat5.elim (fun e => by have e' : gh = gg := Option.some.inj e; omega) (fun e => by omega)
        have O5 : Only w1.heap.size w5 (w5.setCell ⟨w1.heap.size, 1, none⟩ (.slice (some ⟨gg, 0, none⟩) (hs.length + 1) cg)) := (Only.refl w1.heap.size w5).set (.inl rfl) _
        have keep5 : ∀ t : LoopT, t.ok wb.heap.size w3 → t.g ≠ w1.heap.size → t.ok wb.heap.size (w5.setCell ⟨w1.heap.size, 1, none⟩ (.slice (some ⟨gg, 0, none⟩) (hs.length + 1) cg)) := fun t ht hne => ((ht.below Bq).grown hgr5 (hne3 t ht)).only' O5 hne
        have hr5 := own_only' hown5 O5 (fun e => hggn (Option.some.inj e))
        have hD4 : PlD wb.heap.size (w5.setCell ⟨w1.heap.size, 1, none⟩ (.slice (some ⟨gg, 0, none⟩) (hs.length + 1) cg)) ⟨g, n, c, l⟩ (.slice (some ⟨gg, 0, none⟩) (hs.length + 1) cg) (hs ++ [(⟨g3, n3, c3, l3⟩ : LoopT)]) := by
          refine ⟨keep5 _ hD3.1 (by show g ≠ _; omega), by simp; omega, by simpa [LoopT.v] using hr5, fun t ht => ?_⟩
          rcases List.mem_append.1 ht with h | h
          · exact keep5 t (hD3.2.2.2 t h) (Nat.ne_of_lt (hgs t h))
          · obtain rfl : t = ⟨g3, n3, c3, l3⟩ := by simpa using h
            exact keep5 _ ⟨h3, by show n3 ≤ 8; omega, hl3, hc3, hm3, by show wb.heap.size ≤ g3; omega, hB3⟩ (by show g3 ≠ _; omega)
        have P4 := ((P3.trans (Only.of_below Bq)).grown hgr5 (fun j e => by have e' : gh = j := Option.some.inj e; omega)).set (p := ⟨w1.heap.size, 1, none⟩) (.inr (by show wb.heap.size ≤ w1.heap.size; omega)) (.slice (some ⟨gg, 0, none⟩) (hs.length + 1) cg)
        have KK := K.trans (P4.below' (B := w.heap.size) (by omega) (by omega))
        have L4 := lies_set1 (z := .slice (some ⟨gg, 0, none⟩) (hs.length + 1) cg) Lp5
        have Z4 : Lies w.heap.size #[.slice none 0 0, .slice none 0 0] 26 (w5.setCell ⟨w1.heap.size, 1, none⟩ (.slice (some ⟨gg, 0, none⟩) (hs.length + 1) cg)) := set_oth Z5' (by omega)
        clear hown5 hgr5 hat5 hlt5 keep5 hr5 O5 hne3 hD3 Lp3 Z3 R3 P3 Lp5 Z5' d03 d13 f03 f13 d05 d15 f05 f15 Bq hB3 O3 hX PD ZD LpD hDD
        generalize w5.setCell ⟨w1.heap.size, 1, none⟩ (.slice (some ⟨gg, 0, none⟩) (hs.length + 1) cg) = x4 at *
        clear y0 y1 yf0 yf1 d0 d1 f0 f1
        obtain ⟨d0, d1, f0, f1⟩ := lies2 L4
        obtain ⟨y0, y1, yf0, yf1⟩ := lies2 Z4
        have Z5 := setB2 (u0 := .slice (some ⟨g, 0, none⟩) n c) (u1 := .slice (some ⟨gg, 0, none⟩) (hs.length + 1) cg) Z4
        obtain ⟨v0, v1, _, _⟩ := lies2 Z5
        go_wp2_with fail
        refine bodyPost_ret (v := .agg #[.slice (some ⟨g, 0, none⟩) n c, .slice (some ⟨gg, 0, none⟩) (hs.length + 1) cg]) (by simp [results, Try.results10, go_sem, v0, v1]) rfl ?_
        exact ⟨⟨g, n, c, l⟩, _, hs ++ [(⟨g3, n3, c3, l3⟩ : LoopT)], rfl, ((hD4.set (by omega) _).set (by omega) _).mono (by omega), ⟨by simp; omega, ⟨_, _, _, rfl⟩⟩, (KK.setCell (p := ⟨w.heap.size, 0, none⟩) (Nat.le_refl _) _).setCell (p := ⟨w.heap.size, 1, none⟩) (Nat.le_refl _) _⟩
      · skip
        refine wpOp_now rfl (by rfl) ?_
        go_simp
        refine wpAnyH_all (rs := [1]) (by kernel_rfl) (by simp) ?_
        intro i hi
        obtain rfl : i = 1 := by simpa using hi
        refine YieldsIf.wpOp (S := fun w' => w' = w3.alloc (.cells #[.slice (some ⟨g3, 0, none⟩) n3 c3] 23)) (v := .slice (some ⟨gh, 0, none⟩) hs.length ch) rfl (Or.inl ⟨by rfl, by rintro w' rfl; go_simp⟩) rfl ⟨trivial, ?_⟩
        refine wpAnyH_all (rs := [5]) (by kernel_rfl) (by simp) ?_
        intro i hi
        obtain rfl : i = 5 := by simpa using hi
        refine wpOp_now rfl (by rfl) ?_
        refine wp_append_lies _ _ _ _ (by rfl) wb.heap.size 23 i0 _ 1 24 Try.underlying24 hi0 hz0 hz1 hz2 rfl (by omega) _ hs.length _ (by rfl) (hD3.2.2.1.alloc _) ⟨w3.heap.size, 0, none⟩ 1 1 [.slice (some ⟨g3, 0, none⟩) n3 c3] (by rfl) (by rfl) (World.news_of_block (cs := #[.slice (some ⟨g3, 0, none⟩) n3 c3]) (t := 23) (fr := (0, 0)) (heap_alloc_new w3 _)) (by simp [Value.oneCell']) (by omega) hmax (by omega) (by simp; omega) (w3.heap.size + 1) (by simp) ?_
        intro gg cg w5 hown5 hgr5 hat5 hlt5
        refine ⟨trivial, ?_⟩
        simp only [Act.put, List.setIfInBounds_toArray]
        refine wpAnyH_take (i := 6) (v := .pointer (some ⟨w1.heap.size, 1, none⟩)) rfl (by kernel_rfl) (by kernel_rfl) (by kernel_rfl) (fun _ _ _ h => h) (Or.inl ⟨by rfl, by intro w' _; go_simp⟩) trivial ?_
        refine wpAnyH_all (rs := [7]) (by kernel_rfl) (by simp) ?_
        intro i hi
        obtain rfl : i = 7 := by simpa using hi
        have Bq : Below w3.heap.size w3 (w3.alloc (.cells #[.slice (some ⟨g3, 0, none⟩) n3 c3] 23)) := (by repeat (first | exact bw_refl _ | assumption | apply bw_drewN | apply bw_drew | apply bw_alloc | refine bw_set ?_ (by simp) _))
        have Lp5 := lies_grown (Lp3.alloc _) hgr5 (fun e => by have e' : w1.heap.size = gh := Option.some.inj e; omega)
        have Z5' := lies_grown (Z3.alloc _) hgr5 (fun e => by have e' : w.heap.size = gh := Option.some.inj e; omega)
        obtain ⟨d05, d15, f05, f15⟩ := lies2 Lp5
        refine wpOp_now rfl (by rfl) ?_
        go_simp
        refine wpAnyH_done (by kernel_rfl) ?_ _
        simp only [Exit.then]
        have hne3 : ∀ t : LoopT, t.ok wb.heap.size w3 → some t.g ≠ Value.ownBlock (.slice (some ⟨gh, 0, none⟩) hs.length ch) := fun t ht e => by obtain ⟨_, _, _, _, _, _, h7⟩ := ht; exact blk_ne_own h7 hD3.2.2.1 (Option.some.inj e)
        have hggn : gg ≠ w1.heap.size := hat5.elim (fun e => by have e' : gh = gg := Option.some.inj e; omega) (fun e => by omega)
        have O5 : Only w1.heap.size w5 (w5.setCell ⟨w1.heap.size, 1, none⟩ (.slice (some ⟨gg, 0, none⟩) (hs.length + 1) cg)) := (Only.refl w1.heap.size w5).set (.inl rfl) _
        have keep5 : ∀ t : LoopT, t.ok wb.heap.size w3 → t.g ≠ w1.heap.size → t.ok wb.heap.size (w5.setCell ⟨w1.heap.size, 1, none⟩ (.slice (some ⟨gg, 0, none⟩) (hs.length + 1) cg)) := fun t ht hne => ((ht.below Bq).grown hgr5 (hne3 t ht)).only' O5 hne
        have hr5 := own_only' hown5 O5 (fun e => hggn (Option.some.inj e))
        have hD4 : PlD wb.heap.size (w5.setCell ⟨w1.heap.size, 1, none⟩ (.slice (some ⟨gg, 0, none⟩) (hs.length + 1) cg)) ⟨g, n, c, l⟩ (.slice (some ⟨gg, 0, none⟩) (hs.length + 1) cg) (hs ++ [(⟨g3, n3, c3, l3⟩ : LoopT)]) := by
          refine ⟨keep5 _ hD3.1 (by show g ≠ _; omega), by simp; omega, by simpa [LoopT.v] using hr5, fun t ht => ?_⟩
          rcases List.mem_append.1 ht with h | h
          · exact keep5 t (hD3.2.2.2 t h) (Nat.ne_of_lt (hgs t h))
          · obtain rfl : t = ⟨g3, n3, c3, l3⟩ := by simpa using h
            exact keep5 _ ⟨h3, by show n3 ≤ 8; omega, hl3, hc3, hm3, by show wb.heap.size ≤ g3; omega, hB3⟩ (by show g3 ≠ _; omega)
        have P4 := ((P3.trans (Only.of_below Bq)).grown hgr5 (fun j e => by have e' : gh = j := Option.some.inj e; omega)).set (p := ⟨w1.heap.size, 1, none⟩) (.inr (by show wb.heap.size ≤ w1.heap.size; omega)) (.slice (some ⟨gg, 0, none⟩) (hs.length + 1) cg)
        have KK := K.trans (P4.below' (B := w.heap.size) (by omega) (by omega))
        have L4 := lies_set1 (z := .slice (some ⟨gg, 0, none⟩) (hs.length + 1) cg) Lp5
        have Z4 : Lies w.heap.size #[.slice none 0 0, .slice none 0 0] 26 (w5.setCell ⟨w1.heap.size, 1, none⟩ (.slice (some ⟨gg, 0, none⟩) (hs.length + 1) cg)) := set_oth Z5' (by omega)
        clear hown5 hgr5 hat5 hlt5 keep5 hr5 O5 hne3 hD3 Lp3 Z3 R3 P3 Lp5 Z5' d03 d13 f03 f13 d05 d15 f05 f15 Bq hB3 O3 hX PD ZD LpD hDD
        generalize w5.setCell ⟨w1.heap.size, 1, none⟩ (.slice (some ⟨gg, 0, none⟩) (hs.length + 1) cg) = x4 at *
        clear y0 y1 yf0 yf1 d0 d1 f0 f1
        obtain ⟨d0, d1, f0, f1⟩ := lies2 L4
        obtain ⟨y0, y1, yf0, yf1⟩ := lies2 Z4
        have Z5 := setB2 (u0 := .slice (some ⟨g, 0, none⟩) n c) (u1 := .slice (some ⟨gg, 0, none⟩) (hs.length + 1) cg) Z4
        obtain ⟨v0, v1, _, _⟩ := lies2 Z5
        go_wp2_with fail
        refine bodyPost_ret (v := .agg #[.slice (some ⟨g, 0, none⟩) n c, .slice (some ⟨gg, 0, none⟩) (hs.length + 1) cg]) (by simp [results, Try.results10, go_sem, v0, v1]) rfl ?_
        exact ⟨⟨g, n, c, l⟩, _, hs ++ [(⟨g3, n3, c3, l3⟩ : LoopT)], rfl, ((hD4.set (by omega) _).set (by omega) _).mono (by omega), ⟨by simp; omega, ⟨_, _, _, rfl⟩⟩, (KK.setCell (p := ⟨w.heap.size, 0, none⟩) (Nat.le_refl _) _).setCell (p := ⟨w.heap.size, 1, none⟩) (Nat.le_refl _) _⟩
end Go.Proofs.Ythedlopfjlnogaa
namespace Go.Proofs.Ythedlopfjlnogaa
open Go.RowKit Go.Sort

set_option maxRecDepth 100000 in
set_option maxHeartbeats 1000000 in
theorem plateOk_any (a ah : Option Addr) (la ca nh ch : Nat) (o : List P2) (hs : List (List P2)) (w : World) (h : Plt w a la ah nh o hs) :
    Calls Try.prog 11 #[.agg #[.slice a la ca, .slice ah nh ch]] w fun e W' => e = .returned (.bool (plV o hs)) ∧ Below w.heap.size w W' := by
  have B0 : Below w.heap.size w (w.alloc (.cells #[.slice a la ca, .slice ah nh ch] 26)) := (by repeat (first | exact bw_refl _ | assumption | apply bw_drewN | apply bw_drew | apply bw_alloc | refine bw_set ?_ (by simp) _))
  go_enter Try.func11, Try.ntmps11
  go_wp2_with fail
  refine (board_any a ah la ca nh ch o hs _ (h.below B0)).mono ?_
  rintro e w1 ⟨p, rfl, J, _⟩
  go_wp2_with fail
  go_ret
  exact ⟨rfl, bw_trans B0 J⟩
set_option maxRecDepth 100000 in
set_option maxHeartbeats 4000000 in
theorem boardIn_any (b : Nat) (o : RingT) (hs : List RingT) (p : P2) (w : World) (hR : RingL w.heap.size w (some ⟨b, 0, none⟩) (o :: hs)) (hok : ((o :: hs).all fun x => okV x.pts) = true) (hp : ptB p.1 p.2 = true) :
    Calls Try.prog 51 #[.pointer (some ⟨b, 0, none⟩), .agg #[.int .i64 p.1, .int .i64 p.2]] w fun e W' => e = .returned (.int .i64 (plI o.pts (hs.map RingT.pts) p)) ∧ Below w.heap.size w W' := by
  obtain ⟨b0, q0, t0, e0, ob, ol, oP, hR⟩ := hR
  cases e0
  rw [List.all_cons, Bool.and_eq_true] at hok
  have B0 : Below w.heap.size w (w.alloc (.cells #[.int .i64 p.1, .int .i64 p.2] 33)) := (by repeat (first | exact bw_refl _ | assumption | apply bw_drewN | apply bw_drew | apply bw_alloc | refine bw_set ?_ (by simp) _))
  obtain ⟨W, hW, BW, T⟩ : ∃ W, W = w.alloc (.cells #[.int .i64 p.1, .int .i64 p.2] 33) ∧ Below w.heap.size w W ∧ W.heap[w.heap.size]? = some (.cells #[.int .i64 p.1, .int .i64 p.2] 33) := ⟨_, rfl, (by repeat (first | exact bw_refl _ | assumption | apply bw_drewN | apply bw_drew | apply bw_alloc | refine bw_set ?_ (by simp) _)), heap_new _ _⟩
  have hpl : Hid (plI o.pts (hs.map RingT.pts) p = hs.foldl (fun s x => min s (-(inI x.pts p))) (inI o.pts p)) := by change _ = _; unfold plI; rw [List.foldl_map]
  have hall : Hid (∀ x ∈ hs, okV x.pts = true) := List.all_eq_true.1 hok.2
  have HW : Hid (∀ d os, Calls Try.prog 49 #[.slice o.a o.len o.cap, .agg #[.int .i64 p.1, .int .i64 p.2]] (grow (redrawn W d) os) fun e W' => e = .returned (.int .i64 (inI o.pts p)) ∧ Below (grow (redrawn W d) os).heap.size (grow (redrawn W d) os) W') := fun d os =>
    where_any o.a o.len o.cap o.pts p ol hok.1 hp _ ((oP.below (bw_trans BW (below_regrown W d os))).grow (bw_trans BW (below_regrown W d os)).size)
  obtain ⟨o0, o1, _, _⟩ := lies2 (ob.below BW)
  have o0' := cell_regrown o0
  obtain ⟨t0', t1'⟩ := reg_2 T
  have h3 := inI_3 o.pts p
  have hR1 := (hR.below BW (Nat.le_refl _)).grow BW.size
  have ob1 := ob.below BW
  clear o0 o1 hok
  generalize inI o.pts p = u0 at *
  go_enter Try.func51, Try.ntmps51
  go_upto_region 1 with fail
  rw [← hW]
  clear hW
  refine wp_region_quiet_below (by kernel_rfl) (by kernel_rfl) ?_
  repeat (first | go_big_quiet_step (first | (go_at_call 49; with_reducible exact Calls.regrown_of (HW.out _ _))))
  refine wpQuiet_nil ?_
  intro _ hw'
  obtain ⟨⟨dq, osq⟩, hw''⟩ := hw'
  subst hw''
  have J := below_regrown W dq osq
  generalize grow (redrawn W dq) osq = v at J ⊢
  obtain ⟨o0, o1, _, _⟩ := lies2 (ob1.below J)
  have K := bw_trans BW J
  replace T := keep J T
  have hR2 := (hR1.below J (Nat.le_refl _)).grow J.size
  clear HW t0' t1' o0' hR1 hR
  go_wp2_with fail
  go_loopw [5, 6] (fun s q wr => ∃ (u : Int) (q' : Option Addr) (rest : List RingT), s = .int .i64 u ∧ q = .pointer q' ∧ (-1 ≤ u ∧ u ≤ 1) ∧ RingL wr.heap.size wr q' rest ∧ (∀ x ∈ rest, okV x.pts = true) ∧ hs.foldl (fun s x => min s (-(inI x.pts p))) u0 = rest.foldl (fun s x => min s (-(inI x.pts p))) u ∧ Below v.heap.size v wr) (fun _ q wr => ringsLeft wr q)
  case atStart => exact ⟨u0, q0, hs, rfl, rfl, by omega, hR2, hall.out, rfl, bw_refl _⟩
  case round =>
    obtain ⟨u, q', rest, rfl, rfl, hu, hL, hak, he, hnx⟩ := hrel
    cases rest with
    | nil =>
      obtain rfl : q' = none := hL
      have e1 : Hid (plI o.pts (hs.map RingT.pts) p = u) := by change _ = _; rw [hpl.out, he]; rfl
      clear he
      go_wp2_with fail
      go_ret
      exact ⟨ret_int e1.out.symm, bw_trans K hnx⟩
    | cons y ys =>
      have hL' := hL
      obtain ⟨b1, q1, t1, rfl, hb, hlen, hP, hr⟩ := hL
      obtain ⟨d0, d1, _, _⟩ := lies2 hb
      have d0' := cell_regrown d0
      have d1' := cell_regrown d1
      obtain ⟨t0', t1'⟩ := reg_2 (keep hnx T)
      have y3 := inI_3 y.pts p
      have HW : Hid (∀ d os, Calls Try.prog 49 #[.slice y.a y.len y.cap, .agg #[.int .i64 p.1, .int .i64 p.2]] (grow (redrawn wr d) os) fun e W' => e = .returned (.int .i64 (inI y.pts p)) ∧ Below (grow (redrawn wr d) os).heap.size (grow (redrawn wr d) os) W') := fun d os =>
        where_any y.a y.len y.cap y.pts p hlen (hak y (by simp)) hp _ ((hP.below (below_regrown wr d os)).grow (below_regrown wr d os).size)
      have he1 : Hid (hs.foldl (fun s x => min s (-(inI x.pts p))) u0 = ys.foldl (fun s x => min s (-(inI x.pts p))) (min u (-(inI y.pts p)))) := he
      clear he
      generalize inI y.pts p = u1 at *
      have nu : IntKind.i64.wrap (-u1) = -u1 := wrap_small (by omega) (by omega)
      clear d0 d1
      by_cases hm : -u1 < u
      · have hmin : min u (-u1) = -u1 := by omega
        go_wp2_with fail
        refine wp_region_quiet_below (by kernel_rfl) (by kernel_rfl) ?_
        repeat (first | go_big_quiet_step (first | (go_at_call 49; with_reducible exact Calls.regrown_of (HW.out _ _))))
        refine wpQuiet_nil ?_
        intro _ hw'
        obtain ⟨⟨dq, osq⟩, hw''⟩ := hw'
        subst hw''
        have J := below_regrown wr dq osq
        generalize grow (redrawn wr dq) osq = v2 at J ⊢
        obtain ⟨d0, d1, _, _⟩ := lies2 (hb.below J)
        go_wp2_with fail
        go_roundw
        case rel => exact ⟨-u1, q1, ys, rfl, rfl, by omega, (hr.below J (Nat.le_refl _)).grow J.size, fun x hx => hak x (by simp [hx]), by rw [he1.out, hmin], bw_trans hnx J⟩
        case measure => rw [ringsLeft_eq (hr.below J (Nat.le_refl _)), ringsLeft_eq hL']; simp
      · have hmin : min u (-u1) = u := by omega
        go_wp2_with fail
        refine wp_region_quiet_below (by kernel_rfl) (by kernel_rfl) ?_
        repeat (first | go_big_quiet_step (first | (go_at_call 49; with_reducible exact Calls.regrown_of (HW.out _ _))))
        refine wpQuiet_nil ?_
        intro _ hw'
        obtain ⟨⟨dq, osq⟩, hw''⟩ := hw'
        subst hw''
        have J := below_regrown wr dq osq
        generalize grow (redrawn wr dq) osq = v2 at J ⊢
        obtain ⟨d0, d1, _, _⟩ := lies2 (hb.below J)
        go_wp2_with fail
        go_roundw
        case rel => exact ⟨u, q1, ys, rfl, rfl, by omega, (hr.below J (Nat.le_refl _)).grow J.size, fun x hx => hak x (by simp [hx]), by rw [he1.out, hmin], bw_trans hnx J⟩
        case measure => rw [ringsLeft_eq (hr.below J (Nat.le_refl _)), ringsLeft_eq hL']; simp
set_option maxRecDepth 100000 in
set_option maxHeartbeats 1000000 in
theorem plateIn_any (a ah : Option Addr) (la ca nh ch : Nat) (o : List P2) (hs : List (List P2)) (p : P2) (w : World) (h : Plt w a la ah nh o hs) :
    Calls Try.prog 17 #[.agg #[.slice a la ca, .slice ah nh ch], .agg #[.int .i64 p.1, .int .i64 p.2]] w fun e W' => e = .returned (.int .i64 (plInV o hs p)) ∧ Below w.heap.size w W' := by
  obtain ⟨W, hW, BW, TP, T⟩ := boxes2 w (.cells #[.slice a la ca, .slice ah nh ch] 26) (.cells #[.int .i64 p.1, .int .i64 p.2] 33)
  have hh := h.below BW
  obtain ⟨t0, t1⟩ := blk_2 TP
  have zP := blk_lt TP
  cases hv : plV o hs
  · have e1 : Hid (plInV o hs p = -1) := by change _ = _; unfold plInV; rw [hv]; rfl
    go_enter Try.func17, Try.ntmps17
    go_upto_region 1 with fail
    rw [← hW]
    clear hW
    go_wp2_with fail
    refine (board_any a ah la ca nh ch o hs _ hh).mono ?_
    rw [hv]
    rintro e w1 ⟨q, rfl, J, _⟩
    go_wp2_with fail
    go_ret
    exact ⟨ret_int e1.out.symm, bw_trans BW J⟩
  cases hp : ptB p.1 p.2
  · have e1 : Hid (plInV o hs p = -1) := by change _ = _; unfold plInV; rw [hv, hp]; rfl
    go_enter Try.func17, Try.ntmps17
    go_upto_region 1 with fail
    rw [← hW]
    clear hW
    go_wp2_with fail
    refine (board_any a ah la ca nh ch o hs _ hh).mono ?_
    rw [hv]
    rintro e w1 ⟨q, rfl, J, _⟩
    replace T := keep J T
    clear t0 t1
    obtain ⟨t0, t1⟩ := blk_2 T
    go_wp2_with fail
    refine (pt_raw p _).mono ?_
    rw [hp]
    rintro e w2 ⟨rfl, J2⟩
    go_wp2_with fail
    go_ret
    exact ⟨ret_int e1.out.symm, bw_trans (bw_trans BW J) J2⟩
  · have e1 : Hid (plInV o hs p = plI o hs p) := by change _ = _; unfold plInV; rw [hv, hp]; rfl
    have L := (plV_iff o hs).1 hv
    go_enter Try.func17, Try.ntmps17
    go_upto_region 1 with fail
    rw [← hW]
    clear hW
    go_wp2_with fail
    refine (board_any a ah la ca nh ch o hs _ hh).mono ?_
    rintro e w1 ⟨q, rfl, J, hR⟩
    obtain ⟨b, xs, rfl, hR, hx⟩ := hR hv
    rw [hv]
    replace T := keep J T
    clear t0 t1
    obtain ⟨t0, t1⟩ := blk_2 T
    go_wp2_with fail
    refine (pt_raw p _).mono ?_
    rw [hp]
    rintro e w2 ⟨rfl, J2⟩
    replace T := keep J2 T
    clear t0 t1
    obtain ⟨t0, t1⟩ := blk_2 T
    have hall : ((⟨a, la, ca, o⟩ :: xs : List RingT).all fun x => okV x.pts) = true := by
      rw [List.all_eq_true]
      intro x hx'
      rcases List.mem_cons.1 hx' with e | e
      · subst e; exact L.out
      · exact L.ok _ (by rw [← hx]; exact List.mem_map.2 ⟨x, e, rfl⟩)
    go_wp2_with fail
    refine (boardIn_any b ⟨a, la, ca, o⟩ xs p w2 ((hR.below J2 (Nat.le_refl _)).grow J2.size) hall hp).mono ?_
    rw [hx]
    rintro e w3 ⟨rfl, J3⟩
    go_wp2_with fail
    go_ret
    exact ⟨ret_int e1.out.symm, bw_trans (bw_trans (bw_trans BW J) J2) J3⟩
end Go.Proofs.Ythedlopfjlnogaa
namespace Go.Proofs.Ythedlopfjlnogaa
open Go.RowKit Go.Sort

theorem foldl_take_succ {α β : Type} (f : β → α → β) (l : List α) (d : α) (s : β) (k : Nat) (hk : k < l.length) : (l.take (k + 1)).foldl f s = f ((l.take k).foldl f s) (l[k]?.getD d) := by
  rw [List.take_add_one, List.foldl_append]; simp [hk]
theorem plI_bd (o : List P2) (hs : List (List P2)) (p : P2) : -1 ≤ plI o hs p ∧ plI o hs p ≤ 1 := by
  unfold plI
  have : ∀ (hs : List (List P2)) (s : Int), -1 ≤ s ∧ s ≤ 1 → -1 ≤ hs.foldl (fun s h => min s (-(inI h p))) s ∧ hs.foldl (fun s h => min s (-(inI h p))) s ≤ 1 := by
    intro hs
    induction hs with
    | nil => intro s h; exact h
    | cons x xs ih => intro s h; exact ih _ (by dsimp only; have := inI_3 x p; omega)
  exact this hs _ (by have := inI_3 o p; omega)
set_option maxRecDepth 100000 in
set_option maxHeartbeats 4000000 in
theorem sPlI_ok (a ah : Option Addr) (la ca nh ch : Nat) (o : List P2) (hs : List (List P2)) (p : P2) (hv : plV o hs = true) (hp : ptB p.1 p.2 = true) (w : World) (h : Plt w a la ah nh o hs) :
    Calls Try.prog 52 #[.agg #[.slice a la ca, .slice ah nh ch], .agg #[.int .i64 p.1, .int .i64 p.2]] w fun e W' => e = .returned (.int .i64 (plI o hs p)) ∧ Below w.heap.size w W' := by
  obtain ⟨W, hW, BW, TP, T⟩ := boxes2 w (.cells #[.slice a la ca, .slice ah nh ch] 26) (.cells #[.int .i64 p.1, .int .i64 p.2] 33)
  have hPV := (plV_iff o hs).1 hv
  obtain ⟨hla, hP, hlen, A, L, C, hS, hH⟩ := h.below BW
  have HO := sInI_pts a la ca o p hPV.out hp W hP
  have HOK : Hid (∀ j, j < nh → okV (hs[j]?.getD []) = true) := fun j hj => hPV.ok _ (by rw [List.getElem?_eq_getElem (by omega), Option.getD_some]; exact List.getElem_mem _)
  have HL : Hid (hs.length = nh) := hlen
  have H0 : Hid (plI o (hs.take 0) p = inI o p) := rfl
  have HN : Hid (plI o (hs.take nh) p = plI o hs p) := by change _ = _; rw [← hlen, List.take_length]
  have HS : Hid (∀ k, k < nh → plI o (hs.take (k + 1)) p = min (plI o (hs.take k) p) (-(inI (hs[k]?.getD []) p))) := fun k hk => by
    unfold plI; exact foldl_take_succ _ hs [] _ k (by omega)
  have hnh : nh ≤ 2 := by have := hPV.len; omega
  clear hlen hPV hv h
  obtain ⟨t0, t1⟩ := blk_2 TP
  obtain ⟨u0, u1⟩ := blk_2 T
  have zP := blk_lt TP
  go_enter Try.func52, Try.ntmps52
  go_upto_region 1 with fail
  rw [← hW]
  clear hW
  go_wp2_with (go_at_call 44; refine HO.mono ?_; rintro e v ⟨rfl, J⟩)
  have K := bw_trans BW J
  replace TP := keep J TP
  replace T := keep J T
  replace hS := (hS.below J).grow J.size
  replace hH : ∀ j, j < nh → L j ≤ 1048576 ∧ Pts v.heap.size v (A j) (L j) (hs[j]?.getD []) := fun j hj => ⟨(hH j hj).1, ((hH j hj).2.below J).grow J.size⟩
  clear HO t0 t1 u0 u1 J zP
  go_loopw [5, 6] (fun s i wr => ∃ k : Nat, k ≤ nh ∧ i = .int .i64 k ∧ s = .int .i64 (plI o (hs.take k) p) ∧ Below v.heap.size v wr) (fun _ i _ => nh - (intOf i).toNat)
  case atStart => exact ⟨0, Nat.zero_le _, rfl, by rw [H0.out], bw_refl _⟩
  case round =>
    obtain ⟨k, hk, rfl, rfl, hnx⟩ := hrel
    have hbd := plI_bd o (hs.take k) p
    obtain ⟨t0, t1⟩ := blk_2 (keep hnx TP)
    have zT := blk_lt (keep hnx TP)
    by_cases hlt : k < nh
    case neg =>
      obtain rfl : k = nh := by omega
      rw [HN.out]
      go_wp2_with fail
      go_ret
      exact ⟨rfl, bw_trans K hnx⟩
    case pos =>
      rcases hS.below hnx with h0 | ⟨b, off, rfl, hbl, hcs⟩
      · omega
      have c0 := cell_regrown (hcs k hlt)
      clear hcs
      have i0 : (0 : Int) ≤ (k : Int) := Int.natCast_nonneg _
      have i1 : (k : Int) < (nh : Int) := by omega
      obtain ⟨hLk, hPk⟩ := hH k hlt
      have hokk := HOK.out k hlt
      have hst := HS.out k hlt
      have hPkw := (hPk.below hnx).grow hnx.size
      have y3 := inI_3 (hs[k]?.getD []) p
      have HW : Hid (∀ d os, Calls Try.prog 44 #[.slice (A k) (L k) (C k), .agg #[.int .i64 p.1, .int .i64 p.2]] (grow (redrawn wr d) os) fun e W' => e = .returned (.int .i64 (inI (hs[k]?.getD []) p)) ∧ Below (grow (redrawn wr d) os).heap.size (grow (redrawn wr d) os) W') := fun d os =>
        sInI_pts (A k) (L k) (C k) _ p hokk hp _ ((hPkw.below (below_regrown wr d os)).grow (below_regrown wr d os).size)
      obtain ⟨t0r, t1r⟩ := reg_2 (keep hnx TP)
      obtain ⟨u0r, u1r⟩ := reg_2 (keep hnx T)
      have hst' : Hid (plI o (hs.take (k + 1)) p = min (plI o (hs.take k) p) (-(inI (hs[k]?.getD []) p))) := hst
      clear hst hokk hPk hPkw
      generalize inI (hs[k]?.getD []) p = u1 at *
      generalize plI o (hs.take k) p = u at *
      have nu : IntKind.i64.wrap (-u1) = -u1 := wrap_small (by omega) (by omega)
      by_cases hm : -u1 < u
      · have hmin : min u (-u1) = -u1 := by omega
        go_wp2_with fail
        refine wp_region_quiet_below (by kernel_rfl) (by kernel_rfl) ?_
        repeat (first | go_big_quiet_step (first | (go_at_call 44; with_reducible exact Calls.regrown_of (HW.out _ _))))
        refine wpQuiet_nil ?_
        intro _ hw'
        obtain ⟨⟨dq, osq⟩, hw''⟩ := hw'
        subst hw''
        have J := below_regrown wr dq osq
        generalize grow (redrawn wr dq) osq = v2 at J ⊢
        go_wp2_with fail
        go_roundw
        case rel => exact ⟨k + 1, by omega, by simp, by rw [hst'.out, hmin], bw_trans hnx J⟩
        case measure => simp [intOf]; omega
      · have hmin : min u (-u1) = u := by omega
        go_wp2_with fail
        refine wp_region_quiet_below (by kernel_rfl) (by kernel_rfl) ?_
        repeat (first | go_big_quiet_step (first | (go_at_call 44; with_reducible exact Calls.regrown_of (HW.out _ _))))
        refine wpQuiet_nil ?_
        intro _ hw'
        obtain ⟨⟨dq, osq⟩, hw''⟩ := hw'
        subst hw''
        have J := below_regrown wr dq osq
        generalize grow (redrawn wr dq) osq = v2 at J ⊢
        go_wp2_with fail
        go_roundw
        case rel => exact ⟨k + 1, by omega, by simp, by rw [hst'.out, hmin], bw_trans hnx J⟩
        case measure => simp [intOf]; omega
set_option maxRecDepth 100000 in
set_option maxHeartbeats 1000000 in
theorem sPlateIn_any (a ah : Option Addr) (la ca nh ch : Nat) (o : List P2) (hs : List (List P2)) (p : P2) (w : World) (h : Plt w a la ah nh o hs) :
    Calls Try.prog 18 #[.agg #[.slice a la ca, .slice ah nh ch], .agg #[.int .i64 p.1, .int .i64 p.2]] w fun e W' => e = .returned (.int .i64 (plInV o hs p)) ∧ Below w.heap.size w W' := by
  obtain ⟨W, hW, BW, TP, T⟩ := boxes2 w (.cells #[.slice a la ca, .slice ah nh ch] 26) (.cells #[.int .i64 p.1, .int .i64 p.2] 33)
  have hh := h.below BW
  obtain ⟨t0, t1⟩ := blk_2 TP
  have zP := blk_lt TP
  have hcall := sPlateOk_any a ah la ca nh ch o hs W hh
  cases hv : plV o hs
  · rw [hv] at hcall
    have e1 : Hid (plInV o hs p = -1) := by change _ = _; unfold plInV; rw [hv]; rfl
    go_enter Try.func18, Try.ntmps18
    go_upto_region 1 with fail
    rw [← hW]
    clear hW
    go_wp2_with (go_at_call 12; refine hcall.mono ?_; rintro e w1 ⟨rfl, J⟩)
    go_ret
    exact ⟨ret_int e1.out.symm, bw_trans BW J⟩
  rw [hv] at hcall
  cases hp : ptB p.1 p.2
  · have e1 : Hid (plInV o hs p = -1) := by change _ = _; unfold plInV; rw [hv, hp]; rfl
    go_enter Try.func18, Try.ntmps18
    go_upto_region 1 with fail
    rw [← hW]
    clear hW
    go_wp2_with (go_at_call 12; refine hcall.mono ?_; rintro e w1 ⟨rfl, J⟩; obtain ⟨s0, s1⟩ := blk_2 (keep J T))
    refine (sPt_raw p _).mono ?_
    rw [hp]
    rintro e w2 ⟨rfl, J2⟩
    go_wp2_with fail
    go_ret
    exact ⟨ret_int e1.out.symm, bw_trans (bw_trans BW J) J2⟩
  · have e1 : Hid (plInV o hs p = plI o hs p) := by change _ = _; unfold plInV; rw [hv, hp]; rfl
    go_enter Try.func18, Try.ntmps18
    go_upto_region 1 with fail
    rw [← hW]
    clear hW
    go_wp2_with (go_at_call 12; refine hcall.mono ?_; rintro e w1 ⟨rfl, J⟩; obtain ⟨s0, s1⟩ := blk_2 (keep J T))
    refine (sPt_raw p _).mono ?_
    rw [hp]
    rintro e w2 ⟨rfl, J2⟩
    have J3 := bw_trans J J2
    clear s0 s1 t0 t1
    obtain ⟨s0, s1⟩ := blk_2 (keep J3 T)
    obtain ⟨t0, t1⟩ := blk_2 (keep J3 TP)
    go_wp2_with fail
    refine (sPlI_ok a ah la ca nh ch o hs p hv hp w2 (hh.below J3)).mono ?_
    rintro e w3 ⟨rfl, J4⟩
    go_wp2_with fail
    go_ret
    exact ⟨ret_int e1.out.symm, bw_trans (bw_trans BW J3) J4⟩
end Go.Proofs.Ythedlopfjlnogaa
namespace Go.Proofs.Ythedlopfjlnogaa

/-- As many times as large. -/
def sc (K : Int) (p : P2) : P2 := (K * p.1, K * p.2)
theorem crs_sc (K : Int) (a b c : P2) : crs (sc K a).1 (sc K a).2 (sc K b).1 (sc K b).2 (sc K c).1 (sc K c).2 = K * K * crs a.1 a.2 b.1 b.2 c.1 c.2 := by unfold crs sc; grind
theorem dt_sc (K : Int) (a b c : P2) : dt (sc K a).1 (sc K a).2 (sc K b).1 (sc K b).2 (sc K c).1 (sc K c).2 = K * K * dt a.1 a.2 b.1 b.2 c.1 c.2 := by unfold dt sc; grind
theorem pos_sc {K : Int} (hK : 0 < K) (x : Int) : (0 < K * x ↔ 0 < x) ∧ (K * x < 0 ↔ x < 0) ∧ (K * x = 0 ↔ x = 0) := by
  rcases Int.lt_trichotomy x 0 with h | h | h
  · have := Int.mul_neg_of_pos_of_neg hK h; omega
  · subst h; simp
  · have := Int.mul_pos hK h; omega
theorem le_sc {K : Int} (hK : 0 < K) (x y : Int) : K * x ≤ K * y ↔ x ≤ y := ⟨fun h => Int.le_of_mul_le_mul_left h hK, fun h => Int.mul_le_mul_of_nonneg_left h (by omega)⟩
theorem hasP_sc {K : Int} (hK : 0 < K) (a b p : P2) : hasP (sc K a) (sc K b) (sc K p) = hasP a b p := by
  unfold hasP
  rw [Bool.eq_iff_iff, hasC_iff, hasC_iff, crs_sc, dt_sc]
  have h2 := Int.mul_pos hK hK
  have p1 := pos_sc h2 (crs a.1 a.2 b.1 b.2 p.1 p.2)
  have p2 := pos_sc h2 (dt p.1 p.2 a.1 a.2 b.1 b.2)
  omega
theorem splB_sc {K : Int} (hK : 0 < K) (a b c d : P2) : splB (sc K a).1 (sc K a).2 (sc K b).1 (sc K b).2 (sc K c).1 (sc K c).2 (sc K d).1 (sc K d).2 = splB a.1 a.2 b.1 b.2 c.1 c.2 d.1 d.2 := by
  rw [Bool.eq_iff_iff, spl_iff, spl_iff, crs_sc, crs_sc]
  have h2 := Int.mul_pos hK hK
  have p1 := pos_sc h2 (crs a.1 a.2 b.1 b.2 c.1 c.2)
  have p2 := pos_sc h2 (crs a.1 a.2 b.1 b.2 d.1 d.2)
  omega
theorem meetP_sc {K : Int} (hK : 0 < K) (a b c d : P2) : meetP (sc K a) (sc K b) (sc K c) (sc K d) = meetP a b c d := by
  unfold meetP
  rw [meet_alt0, meet_alt0, splB_sc hK, splB_sc hK]
  have h1 := hasP_sc hK a b c
  have h2 := hasP_sc hK a b d
  have h3 := hasP_sc hK c d a
  have h4 := hasP_sc hK c d b
  unfold hasP at h1 h2 h3 h4
  rw [h1, h2, h3, h4]
theorem passP_sc {K : Int} (hK : 0 < K) (a b p : P2) : passP (sc K a) (sc K b) (sc K p) = passP a b p := by
  have l1 := le_sc hK
  have e1 : ∀ a b : P2, (decide ((sc K a).2 ≤ (sc K p).2) && decide ((sc K p).2 < (sc K b).2) && decide (0 < crs (sc K a).1 (sc K a).2 (sc K b).1 (sc K b).2 (sc K p).1 (sc K p).2)) = (decide (a.2 ≤ p.2) && decide (p.2 < b.2) && decide (0 < crs a.1 a.2 b.1 b.2 p.1 p.2)) := by
    intro a b
    rw [crs_sc]
    have p1 := pos_sc (Int.mul_pos hK hK) (crs a.1 a.2 b.1 b.2 p.1 p.2)
    have i1 : ((sc K a).2 ≤ (sc K p).2) ↔ a.2 ≤ p.2 := l1 _ _
    have i2 : ((sc K p).2 < (sc K b).2) ↔ p.2 < b.2 := by have := l1 b.2 p.2; unfold sc; dsimp only; omega
    simp only [i1, i2, p1.1]
  have i3 : ((sc K a).2 > (sc K b).2) ↔ a.2 > b.2 := by have := l1 a.2 b.2; unfold sc; dsimp only; omega
  unfold passP
  simp only [i3]
  split
  · exact e1 b a
  · exact e1 a b
theorem sc_ne {K : Int} (hK : 0 < K) {a b : P2} (h : a ≠ b) : sc K a ≠ sc K b := by
  intro e
  apply h
  have e1 : K * a.1 = K * b.1 := congrArg Prod.fst e
  have e2 : K * a.2 = K * b.2 := congrArg Prod.snd e
  exact Prod.ext (Int.eq_of_mul_eq_mul_left (by omega) e1) (Int.eq_of_mul_eq_mul_left (by omega) e2)
theorem apL_sc {K : Int} (hK : 0 < K) {a b : List P2} (h : apL a b = true) : apL (a.map (sc K)) (b.map (sc K)) = true := by
  rw [apL_iff] at h ⊢
  simp only [List.length_map, map_nxt]
  intro i hi k hk
  rw [map_at hi, map_at hk, map_at (nxt_lt (by omega)), map_at (nxt_lt (by omega)), meetP_sc hK]; exact h i hi k hk
theorem edgy_sc {K : Int} (hK : 0 < K) {a : List P2} (h : Edgy a) : Edgy (a.map (sc K)) := by
  intro i hi
  rw [List.length_map] at hi
  rw [map_nxt, map_at hi, map_at (nxt_lt (by omega))]
  exact sc_ne hK (h i hi)
theorem onL_sc {K : Int} (hK : 0 < K) (l : List P2) (p : P2) : onL (l.map (sc K)) (sc K p) = onL l p := by
  rw [Bool.eq_iff_iff, onL_iff, onL_iff, List.length_map]
  constructor
  · rintro ⟨i, hi, h⟩
    rw [map_nxt, map_at hi, map_at (nxt_lt (by omega)), hasP_sc hK] at h
    exact ⟨i, hi, h⟩
  · rintro ⟨i, hi, h⟩
    refine ⟨i, hi, ?_⟩
    rw [map_nxt, map_at hi, map_at (nxt_lt (by omega)), hasP_sc hK]
    exact h
theorem inI_sc {K : Int} (hK : 0 < K) (l : List P2) (p : P2) : inI (l.map (sc K)) (sc K p) = inI l p := by
  have : cntP (l.map (sc K)) (sc K p) = cntP l p := by
    unfold cntP; rw [sumE_map]; exact sumE_congr fun i _ => by rw [passP_sc hK]
  rw [inI_eq, inI_eq, onL_sc hK, this]

/-! ### Where an edge passes a height -/
def lo (a b : P2) : P2 := if a.2 > b.2 then b else a
def hi (a b : P2) : P2 := if a.2 > b.2 then a else b
/-- The edge passes the height. -/
def stB (a b : P2) (y : Int) : Bool := decide ((lo a b).2 ≤ y) && decide (y < (hi a b).2)
/-- How high it is; where it passes, as many times. -/
def dE (a b : P2) : Int := (hi a b).2 - (lo a b).2
def xE (a b : P2) (y : Int) : Int := (lo a b).1 * dE a b + ((hi a b).1 - (lo a b).1) * (y - (lo a b).2)
theorem stB_iff (a b : P2) (y : Int) : stB a b y = true ↔ (lo a b).2 ≤ y ∧ y < (hi a b).2 := by unfold stB; simp
theorem pass_st (a b p : P2) : passP a b p = true ↔ stB a b p.2 = true ∧ dE a b * p.1 < xE a b p.2 := by
  have e : passP a b p = (decide ((lo a b).2 ≤ p.2) && decide (p.2 < (hi a b).2) && decide (0 < crs (lo a b).1 (lo a b).2 (hi a b).1 (hi a b).2 p.1 p.2)) := by
    unfold passP lo hi; split <;> rfl
  rw [e, stB_iff]
  simp only [Bool.and_eq_true, decide_eq_true_eq]
  have : crs (lo a b).1 (lo a b).2 (hi a b).1 (hi a b).2 p.1 p.2 = xE a b p.2 - dE a b * p.1 := by unfold crs xE dE; grind
  rw [this]
  omega
theorem dE_pos {a b : P2} {y : Int} (h : stB a b y = true) : 0 < dE a b := by rw [stB_iff] at h; unfold dE; omega
theorem lohi_has (a b p : P2) : hasP (lo a b) (hi a b) p = hasP a b p := by
  unfold lo hi; split
  · exact hasP_back _ _ _
  · rfl
theorem lo_sc {K : Int} (hK : 0 < K) (a b : P2) : lo (sc K a) (sc K b) = sc K (lo a b) ∧ hi (sc K a) (sc K b) = sc K (hi a b) := by
  have i3 : ((sc K a).2 > (sc K b).2) ↔ a.2 > b.2 := by have := le_sc hK a.2 b.2; unfold sc; dsimp only; omega
  unfold lo hi
  simp only [i3]
  constructor <;> split <;> rfl
theorem dE_sc {K : Int} (hK : 0 < K) (a b : P2) : dE (sc K a) (sc K b) = K * dE a b := by
  unfold dE; rw [(lo_sc hK a b).1, (lo_sc hK a b).2]; unfold sc; grind
theorem xE_sc {K : Int} (hK : 0 < K) (a b : P2) (y : Int) : xE (sc K a) (sc K b) (K * y) = K * (K * xE a b y) := by
  unfold xE; rw [dE_sc hK, (lo_sc hK a b).1, (lo_sc hK a b).2]; unfold sc; dsimp only; grind
theorem stB_sc {K : Int} (hK : 0 < K) (a b : P2) (y : Int) : stB (sc K a) (sc K b) (K * y) = stB a b y := by
  rw [Bool.eq_iff_iff, stB_iff, stB_iff, (lo_sc hK a b).1, (lo_sc hK a b).2]
  have h1 := le_sc hK (lo a b).2 y
  have h2 := le_sc hK (hi a b).2 y
  unfold sc; dsimp only; omega
/-- The point where an edge passes, scaled, is on the scaled edge. -/
theorem has_at {a b : P2} {y M : Int} (hM : 0 < M) (h : stB a b y = true) : hasP (sc (dE a b * M) a) (sc (dE a b * M) b) (M * xE a b y, dE a b * M * y) = true := by
  have hD := dE_pos h
  have hK := Int.mul_pos hD hM
  rw [← lohi_has, (lo_sc hK a b).1, (lo_sc hK a b).2]
  rw [stB_iff] at h
  unfold hasP
  refine has_of_between ?_ ?_ ?_ ?_
  · unfold xE sc dE crs; dsimp only; grind
  · exact (le_sc hK _ _).2 h.1
  · exact (le_sc hK _ _).2 (by omega)
  · have := le_sc hK (hi a b).2 (lo a b).2; unfold sc; dsimp only; unfold dE at *; omega
/-- The second edge passes right of where the first one does. -/
def rB (y : Int) (a b c d : P2) : Bool := stB c d y && decide (dE c d * xE a b y < dE a b * xE c d y)
theorem pass_at {a b c d : P2} {y : Int} (h : stB a b y = true) : passP (sc (dE a b) c) (sc (dE a b) d) (xE a b y, dE a b * y) = rB y a b c d := by
  have hD := dE_pos h
  rw [Bool.eq_iff_iff, pass_st]
  unfold rB
  rw [stB_sc hD, Bool.and_eq_true, decide_eq_true_eq, dE_sc hD, xE_sc hD]
  have e : dE a b * dE c d * xE a b y = dE a b * (dE c d * xE a b y) := by grind
  rw [e]
  have := le_sc hD (dE a b * xE c d y) (dE c d * xE a b y)
  constructor <;> rintro ⟨h1, h2⟩ <;> exact ⟨h1, by omega⟩
/-- Two edges that do not meet, and pass a height: one of them is right of the other one. -/
theorem r_one {a b c d : P2} {y : Int} (hab : a ≠ b) (hcd : c ≠ d) (hm : meetP a b c d = false) (h1 : stB a b y = true) (h2 : stB c d y = true) : b2i (rB y a b c d) + b2i (rB y c d a b) = 1 := by
  have d1 := dE_pos h1
  have d2 := dE_pos h2
  have hne : dE c d * xE a b y ≠ dE a b * xE c d y := by
    intro e
    have hK := Int.mul_pos d1 d2
    have k1 := has_at d2 h1
    have k2 := has_at d1 h2
    rw [e, Int.mul_comm (dE c d) (dE a b)] at *
    have := common_meet (sc_ne hK hab) (sc_ne hK hcd) k1 k2
    rw [meetP_sc hK, hm] at this
    cases this
  unfold rB
  rw [h1, h2, Bool.true_and, Bool.true_and]
  rcases Int.lt_or_gt_of_ne hne with h | h
  · rw [decide_eq_true h, decide_eq_false (by omega)]; rfl
  · rw [decide_eq_false (by omega), decide_eq_true (by omega)]; rfl
theorem r_pair {a b c d p : P2} (hab : a ≠ b) (hcd : c ≠ d) (hm : meetP a b c d = false) :
    b2i (passP a b p) * b2i (rB p.2 a b c d) + b2i (passP c d p) * b2i (rB p.2 c d a b) = b2i (passP a b p) * b2i (passP c d p) := by
  have imp : ∀ a b c d : P2, passP a b p = true → rB p.2 a b c d = true → passP c d p = true := by
    intro a b c d h1 h2
    rw [pass_st] at h1 ⊢
    unfold rB at h2
    rw [Bool.and_eq_true, decide_eq_true_eq] at h2
    refine ⟨h2.1, ?_⟩
    have d1 := dE_pos h1.1
    have d2 := dE_pos h2.1
    have t := Int.mul_lt_mul_of_pos_left h1.2 d2
    have e : dE c d * (dE a b * p.1) = dE a b * (dE c d * p.1) := by grind
    rw [e] at t
    exact Int.lt_of_mul_lt_mul_left (Int.lt_trans t h2.2) (by omega)
  cases h1 : passP a b p
  · cases h2 : passP c d p
    · simp [b2i]
    · cases h3 : rB p.2 c d a b
      · simp [b2i]
      · have := imp c d a b h2 h3; rw [h1] at this; cases this
  · cases h2 : passP c d p
    · cases h3 : rB p.2 a b c d
      · simp [b2i]
      · have := imp a b c d h1 h3; rw [h2] at this; cases this
    · have := r_one (y := p.2) hab hcd hm ((pass_st _ _ _).1 h1).1 ((pass_st _ _ _).1 h2).1
      have o : b2i true = 1 := rfl
      rw [o]; omega
/-! ### Sums over pairs -/
theorem sumF_swap (g : Nat → Nat → Int) (m n : Nat) : sumF (fun i => sumF (g i) n) m = sumF (fun j => sumF (fun i => g i j) m) n := by
  induction m with
  | zero =>
    have : ∀ n, sumF (fun _ => (0 : Int)) n = 0 := fun n => by induction n with
      | zero => rfl
      | succ n ih => show sumF _ n + 0 = 0; rw [ih]; rfl
    exact (this n).symm
  | succ m ih =>
    show sumF _ m + sumF (g m) n = sumF (fun j => sumF (fun i => g i j) m + g m j) n
    rw [sumF_add, ih]
theorem sumF_prod (x y : Nat → Int) (m n : Nat) : sumF (fun i => sumF (fun j => x i * y j) n) m = sumF x m * sumF y n := by
  have : (fun i => sumF (fun j => x i * y j) n) = fun i => sumF y n * x i := by funext i; rw [sumF_mul, Int.mul_comm]
  rw [this, sumF_mul, Int.mul_comm]
theorem sumF_pairs {x y : Nat → Int} {r s : Nat → Nat → Int} {m n : Nat} (h : ∀ i, i < m → ∀ j, j < n → x i * r i j + y j * s j i = x i * y j) :
    sumF (fun i => x i * sumF (r i) n) m + sumF (fun j => y j * sumF (s j) m) n = sumF x m * sumF y n := by
  have e1 : sumF (fun i => x i * sumF (r i) n) m = sumF (fun i => sumF (fun j => x i * r i j) n) m := sumF_congr fun i _ => (sumF_mul _ _ _).symm
  have e2 : sumF (fun j => y j * sumF (s j) m) n = sumF (fun i => sumF (fun j => y j * s j i) n) m := by
    rw [sumF_swap]; exact sumF_congr fun j _ => (sumF_mul _ _ _).symm
  rw [e1, e2, ← sumF_add, ← sumF_prod]
  refine sumF_congr fun i hi => ?_
  rw [← sumF_add]
  exact sumF_congr fun j hj => h i hi j hj
theorem sumF_mod {x s : Nat → Int} {β : Int} {m : Nat} (h : ∀ i, i < m → x i = 0 ∨ (x i = 1 ∧ s i % 2 = β % 2)) : sumF (fun i => x i * s i) m % 2 = (β * sumF x m) % 2 := by
  rw [← sumF_mul]
  have := sumF_even (f := fun i => x i * s i + - (β * x i)) (n := m) (fun i hi => by
    rcases h i hi with e | ⟨e, e2⟩
    · simp [e]
    · simp only [e, Int.one_mul, Int.mul_one]; omega)
  rw [sumF_add, sumF_neg] at this
  omega
/-- Is a corner of the second loop in the first one? As a number. -/
def innN (a b : List P2) : Int := if inI a (ptAt b 0) = 1 then 1 else 0
/-- TWO LOOPS THAT DO NOT MEET, seen from any point. -/
theorem two_loops {a b : List P2} (ha : Edgy a) (hb : Edgy b) (hm : apL a b = true) (p : P2) : (cntP a p * cntP b p) % 2 = (innN b a * cntP a p + innN a b * cntP b p) % 2 := by
  have hm' : apL b a = true := by rw [apL_comm]; exact hm
  have key : ∀ a b : List P2, Edgy a → Edgy b → apL b a = true → ∀ i, i < a.length →
      b2i (passP (ptAt a i) (ptAt a (nxt a i)) p) = 0 ∨ (b2i (passP (ptAt a i) (ptAt a (nxt a i)) p) = 1 ∧ sumF (fun j => b2i (rB p.2 (ptAt a i) (ptAt a (nxt a i)) (ptAt b j) (ptAt b (nxt b j)))) b.length % 2 = innN b a % 2) := by
    intro a b ha hb hm i hi
    cases hp : passP (ptAt a i) (ptAt a (nxt a i)) p
    · exact .inl rfl
    · right
      refine ⟨rfl, ?_⟩
      have hst := ((pass_st _ _ _).1 hp).1
      have hD := dE_pos hst
      have h1 := has_at (M := 1) (by omega) hst
      rw [Int.mul_one, Int.one_mul] at h1
      have hon : onL (a.map (sc (dE (ptAt a i) (ptAt a (nxt a i))))) (xE (ptAt a i) (ptAt a (nxt a i)) p.2, dE (ptAt a i) (ptAt a (nxt a i)) * p.2) = true := by
        rw [onL_iff]
        refine ⟨i, by rw [List.length_map]; exact hi, ?_⟩
        rw [map_nxt, map_at hi, map_at (nxt_lt (by omega))]; exact h1
      have hs := edge_side (edgy_sc hD hb) (edgy_sc hD ha) (apL_sc hD hm) hon
      rw [map_at (by omega), inI_sc hD] at hs
      have hc : cntP (b.map (sc (dE (ptAt a i) (ptAt a (nxt a i))))) (xE (ptAt a i) (ptAt a (nxt a i)) p.2, dE (ptAt a i) (ptAt a (nxt a i)) * p.2) = sumF (fun j => b2i (rB p.2 (ptAt a i) (ptAt a (nxt a i)) (ptAt b j) (ptAt b (nxt b j)))) b.length := by
        unfold cntP
        rw [sumE_map]
        exact sumF_congr fun j _ => by dsimp only; rw [pass_at hst]
      rw [← hc]
      have he := inI_eq (b.map (sc (dE (ptAt a i) (ptAt a (nxt a i))))) (xE (ptAt a i) (ptAt a (nxt a i)) p.2, dE (ptAt a i) (ptAt a (nxt a i)) * p.2)
      rw [hs.2, hs.1] at he
      simp only [Bool.false_eq_true, if_false] at he
      unfold innN
      rw [he]
      split <;> simp <;> omega
  have hpairs := sumF_pairs (m := a.length) (n := b.length) (x := fun i => b2i (passP (ptAt a i) (ptAt a (nxt a i)) p)) (y := fun j => b2i (passP (ptAt b j) (ptAt b (nxt b j)) p))
    (r := fun i j => b2i (rB p.2 (ptAt a i) (ptAt a (nxt a i)) (ptAt b j) (ptAt b (nxt b j)))) (s := fun j i => b2i (rB p.2 (ptAt b j) (ptAt b (nxt b j)) (ptAt a i) (ptAt a (nxt a i))))
    (fun i hi j hj => r_pair (ha i hi) (hb j hj) ((apL_iff a b).1 hm i hi j hj))
  have m1 := sumF_mod (key a b ha hb hm')
  have m2 := sumF_mod (key b a hb ha hm)
  have c1 : cntP a p = sumF (fun i => b2i (passP (ptAt a i) (ptAt a (nxt a i)) p)) a.length := rfl
  have c2 : cntP b p = sumF (fun j => b2i (passP (ptAt b j) (ptAt b (nxt b j)) p)) b.length := rfl
  rw [c1, c2, ← hpairs]
  omega
theorem inI_odd {l : List P2} {p : P2} (h : inI l p = 1) : cntP l p % 2 = 1 := by
  rw [inI_eq] at h
  split at h
  · omega
  · split at h <;> omega
/-- What is in a loop that is in another one is in that one. -/
theorem in_in_in {o h : List P2} {p : P2} (ho : okV o = true) (hh : okV h = true) (ha : arB o h = true) (hp : inI h p = 1) : inI o p = 1 := by
  rw [arB_iff] at ha
  have z1 := okV_pos ho
  have z2 := okV_pos hh
  have nb := not_both (by omega) (by omega) ha.1 ha.2 0 (by omega)
  have t := two_loops (okV_edgy ho) (okV_edgy hh) ha.1 p
  have n1 : innN o h = 1 := by unfold innN; rw [if_pos ha.2]
  have n2 : innN h o = 0 := by unfold innN; rw [nb]; rfl
  rw [n1, n2, Int.zero_mul, Int.one_mul, Int.zero_add, Int.mul_emod, inI_odd hp] at t
  have hoff : onL o p = false := by
    rw [Bool.eq_false_iff]; intro hon
    have := (on_side hh ho (by rw [apL_comm]; exact ha.1) hon).1
    rw [nb] at this; omega
  rw [inI_eq, hoff]
  have : cntP o p % 2 = 1 := by
    rcases (show cntP o p % 2 = 0 ∨ cntP o p % 2 = 1 by omega) with e | e
    · rw [e] at t; simp at t
    · exact e
  simp [this]
/-- What is in a loop is beyond one that is beyond it. -/
theorem in_beyond {a b : List P2} {p : P2} (ha : okV a = true) (hb : okV b = true) (h : beB a b = true) (hp : inI a p = 1) : inI b p = -1 := by
  rw [beB_iff] at h
  have t := two_loops (okV_edgy ha) (okV_edgy hb) h.1 p
  have n1 : innN a b = 0 := by unfold innN; rw [h.2.1]; rfl
  have n2 : innN b a = 0 := by unfold innN; rw [h.2.2]; rfl
  rw [n1, n2, Int.zero_mul, Int.zero_mul, Int.zero_add, Int.mul_emod, inI_odd hp] at t
  have hoff : onL b p = false := by
    rw [Bool.eq_false_iff]; intro hon
    have := (on_side ha hb h.1 hon).1
    rw [h.2.1] at this; omega
  refine inI_none hoff ?_
  rcases (show cntP b p % 2 = 0 ∨ cntP b p % 2 = 1 by omega) with e | e
  · exact e
  · rw [e] at t; simp at t
/-- P44: a hole that is filled. -/
theorem fill {o h : List P2} {hs : List (List P2)} {p : P2} (hv : plV o (hs ++ [h]) = true) :
    (0 ≤ inI h p → plI o (hs ++ [h]) p = - inI h p ∧ plI o hs p = 1) ∧ (inI h p = -1 → plI o (hs ++ [h]) p = plI o hs p) := by
  have hv' : plV o hs = true := by have := plV_less hv; rwa [List.dropLast_concat] at this
  have L := (plV_iff _ _).1 hv
  have ok := L.ok h (by simp)
  have ar := L.ar h (by simp)
  have e3 := inI_3 h p
  rw [plI_snoc]
  have le1 : plI o hs p ≤ 1 := by
    have : ∀ (hs : List (List P2)) (s : Int), s ≤ 1 → hs.foldl (fun s h => min s (-(inI h p))) s ≤ 1 := by
      intro hs
      induction hs with
      | nil => intro s h; exact h
      | cons x xs ih => intro s h; exact ih _ (by dsimp only; omega)
    exact this hs _ (by have := inI_3 o p; omega)
  constructor
  · intro h0
    have : plI o hs p = 1 := by
      refine (plI_one hv' p).2 ⟨?_, ?_⟩
      · rcases e3 with e | e | e
        · rw [(on_side L.out ok ((arB_iff _ _).1 ar).1 ((inI_zero _ _).1 e)).1]; exact ((arB_iff _ _).1 ar).2
        · exact in_in_in L.out ok ar e
        · omega
      · intro k hk
        obtain ⟨i, hi, rfl⟩ := List.getElem_of_mem hk
        have hbe := L.be i hs.length hi (by simp)
        rw [List.getElem?_append_left hi, List.getElem?_concat_length, List.getElem?_eq_getElem hi, Option.getD_some, Option.getD_some] at hbe
        have okk := L.ok hs[i] (by simp)
        have hbe' : beB h hs[i] = true := by rw [beB_comm]; exact hbe
        rcases e3 with e | e | e
        · have hb := (beB_iff _ _).1 hbe
          rw [(on_side okk ok hb.1 ((inI_zero _ _).1 e)).1]; exact hb.2.1
        · exact in_beyond ok okk hbe' e
        · omega
    rw [this]
    exact ⟨by omega, rfl⟩
  · intro e
    rw [e]; omega
end Go.Proofs.Ythedlopfjlnogaa
namespace Go.Proofs.Ythedlopfjlnogaa
open Go.RowKit Go.Shelf Go.Sort

set_option maxRecDepth 100000 in
set_option maxHeartbeats 1000000 in
/-- LoopIn. -/
theorem in_any' (a : Option Addr) (len cap : Nat) (pts : List P2) (p : P2) (hlen : len ≤ 1048576) (w : World) (hP : Pts w.heap.size w a len pts) :
    Calls Try.prog 15 #[.slice a len cap, .agg #[.int .i64 p.1, .int .i64 p.2]] w fun e W' => e = .returned (.int .i64 (inV pts p)) ∧ Below w.heap.size w W' := by
  obtain ⟨W, hW, BW, T⟩ : ∃ W, W = w.alloc (.cells #[.int .i64 p.1, .int .i64 p.2] 33) ∧ Below w.heap.size w W ∧ W.heap[w.heap.size]? = some (.cells #[.int .i64 p.1, .int .i64 p.2] 33) := ⟨_, rfl, (by repeat (first | exact bw_refl _ | assumption | apply bw_drewN | apply bw_drew | apply bw_alloc | refine bw_set ?_ (by simp) _)), heap_new _ _⟩
  have hP1 := (hP.below BW).grow BW.size
  have hcall := ok_any a len cap pts hlen W hP1
  cases hok : okV pts
  · rw [hok] at hcall
    have e1 : Hid (inV pts p = -1) := by change _ = _; unfold inV; rw [hok]; rfl
    go_enter Try.func15, Try.ntmps15
    go_upto_region 1 with fail
    rw [← hW]
    clear hW
    go_wp2_with (go_at_call 47; refine hcall.mono ?_; rintro e v ⟨rfl, J0⟩)
    go_ret
    exact ⟨ret_int e1.out.symm, bw_trans BW J0⟩
  rw [hok] at hcall
  cases hp : ptB p.1 p.2
  · have e1 : Hid (inV pts p = -1) := by change _ = _; unfold inV; rw [hok, hp]; rfl
    go_enter Try.func15, Try.ntmps15
    go_upto_region 1 with fail
    rw [← hW]
    clear hW
    go_wp2_with (go_at_call 47; refine hcall.mono ?_; rintro e v ⟨rfl, J0⟩; obtain ⟨t0, t1⟩ := blk_2 (keep J0 T))
    refine (pt_raw p _).mono ?_
    rw [hp]
    rintro e v2 ⟨rfl, J1⟩
    go_wp2_with fail
    go_ret
    exact ⟨ret_int e1.out.symm, bw_trans (bw_trans BW J0) J1⟩
  · have e1 : Hid (inV pts p = inI pts p) := by change _ = _; unfold inV; rw [hok, hp]; rfl
    go_enter Try.func15, Try.ntmps15
    go_upto_region 1 with fail
    rw [← hW]
    clear hW
    go_wp2_with (go_at_call 47; refine hcall.mono ?_; rintro e v ⟨rfl, J0⟩; obtain ⟨t0, t1⟩ := blk_2 (keep J0 T))
    refine (pt_raw p _).mono ?_
    rw [hp]
    rintro e v2 ⟨rfl, J1⟩
    clear t0 t1
    have J2 := bw_trans J0 J1
    obtain ⟨t0, t1⟩ := blk_2 (keep J2 T)
    go_wp2_with fail
    refine (where_any a len cap pts p hlen hok hp v2 ((hP1.below J2).grow J2.size)).mono ?_
    rintro e v3 ⟨rfl, J3⟩
    go_wp2_with fail
    go_ret
    exact ⟨ret_int e1.out.symm, bw_trans (bw_trans BW J2) J3⟩
end Go.Proofs.Ythedlopfjlnogaa
namespace Go.Proofs.Ythedlopfjlnogaa
open Go.RowKit Go.Sort

theorem plInV_ok {o : List P2} {hs : List (List P2)} {p : P2} (h : plV o hs = true) (hp : ptB p.1 p.2 = true) : plInV o hs p = plI o hs p := by unfold plInV; rw [h, hp]; rfl
theorem plInV_no {o : List P2} {hs : List (List P2)} {p : P2} (h : plV o hs = false) : plInV o hs p = -1 := by unfold plInV; rw [h]; rfl
theorem inV_ok {l : List P2} {p : P2} (h : okV l = true) (hp : ptB p.1 p.2 = true) : inV l p = inI l p := by unfold inV; rw [h, hp]; rfl
theorem Plt.less {W : World} {a ah : Option Addr} {la m : Nat} {o x : List P2} {hs : List (List P2)} (h : Plt W a la ah (m + 1) o (hs ++ [x])) : Plt W a la ah m o hs := by
  obtain ⟨h1, h2, h3, A, L, C, h4, h5⟩ := h
  have hm : hs.length = m := by simpa using h3
  refine ⟨h1, h2, hm, A, L, C, ?_, fun j hj => ?_⟩
  · rcases h4 with h | ⟨b, off, e, hb, hc⟩
    · omega
    · exact .inr ⟨b, off, e, hb, fun j hj => hc j (by omega)⟩
  · have := h5 j (by omega)
    rwa [List.getElem?_append_left (by omega)] at this
set_option maxRecDepth 100000 in
set_option maxHeartbeats 4000000 in
theorem plateFill_walk (w : World) (a0 : Option Addr) (len0 cap0 : Nat) (z0 : List Int) (r0 : IsRow .u8 w a0 len0 cap0 z0) :
    Calls Try.prog 5 #[.slice a0 len0 cap0] w fun e w' => e = .returned (.bool true) ∧ Below w.heap.size w w' := by
  by_cases hl : 1048576 < len0
  · go_enter Try.func5, Try.ntmps5
    go_wp2
    go_ret
    exact ⟨rfl, bw_refl _⟩
  have hl0 : len0 ≤ 1048576 := by omega
  clear hl
  have heq : ∀ b : Int, (b == b) = true := by simp
  go_enter Try.func5, Try.ntmps5
  go_wp2_with fail
  refine (drawPlateIn_any w _ r0 (bw_refl _)).mono ?_
  rintro e w1 ⟨⟨g, n, c, l⟩, hv, hs, x, y, he, hPB, hD, ⟨hs3, hst⟩, J1⟩
  obtain rfl : e = .returned (.tuple #[.agg #[.slice (some ⟨g, 0, none⟩) n c, hv], .agg #[.int .i64 x, .int .i64 y]]) := he
  obtain ⟨gh, ch, rfl⟩ : ∃ gh ch, hv = .slice (some ⟨gh, 0, none⟩) hs.length ch := own_seat hD.2.2.1 hst
  obtain ⟨W, hW, BW, T, T2⟩ := boxes2 w1 (.cells #[.slice (some ⟨g, 0, none⟩) n c, .slice (some ⟨gh, 0, none⟩) hs.length ch] 26) (.cells #[.int .i64 x, .int .i64 y] 33)
  replace hD := hD.below BW
  have K := bw_trans J1 BW
  go_upto_region 5 with fail
  rw [← hW]
  clear hW BW J1
  have hcap : hs.length ≤ ch := by
    rcases hD.2.2.1.2 with ⟨e, _⟩ | ⟨g', c', cur, e, _, _, h1, _⟩
    · cases e
    · cases e; exact h1
  have hPl := hD.plt
  obtain ⟨t0, t1⟩ := blk_2 T
  obtain ⟨u0, u1⟩ := blk_2 T2
  go_wp2_with fail
  refine (plateIn_any _ _ n c hs.length ch l _ (x, y) _ hPl).mono ?_
  rintro e w2 ⟨rfl, J⟩
  replace K := bw_trans K J
  replace T := keep J T
  replace T2 := keep J T2
  replace hD := hD.below J
  replace hPl := hPl.below J
  clear J t0 t1 u0 u1
  obtain ⟨t0, t1⟩ := blk_2 T
  obtain ⟨u0, u1⟩ := blk_2 T2
  go_wp2_with fail
  refine (sPlateIn_any _ _ n c hs.length ch l _ (x, y) _ hPl).mono ?_
  rintro e w3 ⟨rfl, J⟩
  replace K := bw_trans K J
  replace T := keep J T
  replace T2 := keep J T2
  replace hD := hD.below J
  replace hPl := hPl.below J
  clear J t0 t1 u0 u1
  obtain ⟨t0, t1⟩ := blk_2 T
  obtain ⟨u0, u1⟩ := blk_2 T2
  cases hv : plV l (hs.map LoopT.l)
  case false =>
    go_wp2_with fail
    refine (sPlateOk_any _ _ n c hs.length ch l _ _ hPl).mono ?_
    rw [hv]
    rintro e w4 ⟨rfl, J⟩
    replace K := bw_trans K J
    replace hPl := hPl.below J
    obtain ⟨t0, t1⟩ := blk_2 (keep J T)
    obtain ⟨u0, u1⟩ := blk_2 (keep J T2)
    go_wp2_with fail
    refine (sPlateIn_any _ _ n c hs.length ch l _ (x, y) _ hPl).mono ?_
    rintro e w5 ⟨rfl, J⟩
    go_wp2_with fail
    go_ret
    exact ⟨rfl, bw_trans K J⟩
  go_wp2_with fail
  refine (sPlateOk_any _ _ n c hs.length ch l _ _ hPl).mono ?_
  rw [hv]
  rintro e w4 ⟨rfl, J⟩
  replace K := bw_trans K J
  replace T := keep J T
  replace T2 := keep J T2
  replace hD := hD.below J
  replace hPl := hPl.below J
  clear J t0 t1 u0 u1
  obtain ⟨t0, t1⟩ := blk_2 T
  obtain ⟨u0, u1⟩ := blk_2 T2
  cases hp : ptB x y
  case false =>
    go_wp2_with fail
    refine (sPt_any x y _).mono ?_
    rw [hp]
    rintro e w5 ⟨rfl, J⟩
    replace K := bw_trans K J
    replace hPl := hPl.below J
    obtain ⟨t0, t1⟩ := blk_2 (keep J T)
    obtain ⟨u0, u1⟩ := blk_2 (keep J T2)
    go_wp2_with fail
    refine (sPlateIn_any _ _ n c hs.length ch l _ (x, y) _ hPl).mono ?_
    rintro e w6 ⟨rfl, J⟩
    go_wp2_with fail
    go_ret
    exact ⟨rfl, bw_trans K J⟩
  go_wp2_with fail
  refine (sPt_any x y _).mono ?_
  rw [hp]
  rintro e w5 ⟨rfl, J⟩
  replace K := bw_trans K J
  replace T := keep J T
  replace T2 := keep J T2
  replace hD := hD.below J
  replace hPl := hPl.below J
  clear J t0 t1 u0 u1
  obtain ⟨t0, t1⟩ := blk_2 T
  obtain ⟨u0, u1⟩ := blk_2 T2
  rcases List.eq_nil_or_concat hs with rfl | ⟨hs', t, hhs⟩
  · go_wp2_with fail
    refine (sPlateIn_any _ _ n c 0 ch l _ (x, y) _ hPl).mono ?_
    rintro e w6 ⟨rfl, J⟩
    go_wp2_with fail
    go_ret
    exact ⟨rfl, bw_trans K J⟩
  rw [List.concat_eq_append] at hhs
  obtain ⟨gt, nt, ct, lt⟩ := t
  obtain ⟨m, hm⟩ : ∃ m, hs'.length = m := ⟨_, rfl⟩
  have hml : hs.length = m + 1 := by rw [hhs]; simp [hm]
  have htk := hD.2.2.2 ⟨gt, nt, ct, lt⟩ (by rw [hhs]; simp)
  have hcell := own_news hD.2.2.1 (j := m) (u := .slice (some ⟨gt, 0, none⟩) nt ct) (by rw [hhs]; simp [← hm, LoopT.v])
  rw [show ((⟨gh, 0, none⟩ : Addr).add m) = ⟨gh, m, none⟩ by unfold Addr.add; split <;> simp_all] at hcell
  have hmap : hs.map LoopT.l = hs'.map LoopT.l ++ [lt] := by rw [hhs]; simp
  have hvin : plInV l (hs.map LoopT.l) (x, y) = plI l (hs'.map LoopT.l ++ [lt]) (x, y) := by rw [plInV_ok hv hp, hmap]
  rw [hmap, hml] at hPl
  have hPq := hPl.less
  rw [hmap] at hv
  have hF := fill (p := (x, y)) hv
  have hv' : plV l (hs'.map LoopT.l) = true := by have := plV_less hv; rwa [List.dropLast_concat] at this
  have hok : okV lt = true := ((plV_iff _ _).1 hv).ok lt (by simp)
  have hvq : plInV l (hs'.map LoopT.l) (x, y) = plI l (hs'.map LoopT.l) (x, y) := plInV_ok hv' hp
  have hvl : inV lt (x, y) = inI lt (x, y) := inV_ok hok hp
  obtain ⟨k1, k2, k3, k4, k5, k6, k7⟩ := htk
  have hPt := blk_pts k7 k3
  have k2' : nt ≤ 1048576 := by have : nt ≤ 8 := k2; omega
  have e3 := inI_3 lt (x, y)
  have hm3 : (m : Int) ≤ 3 := by omega
  rw [hml] at T t1 hcap
  rw [hml, hvin]
  clear hvin hhs hD hst hs3 k1 k2 k3 k4 k5 k6 k7 hPB hPl hv hv' hok hmap hml
  generalize plI l (hs'.map LoopT.l ++ [lt]) (x, y) = uin at *
  generalize inI lt (x, y) = ul at *
  generalize plI l (hs'.map LoopT.l) (x, y) = uq at *
  have i0 : (0 : Int) ≤ (m : Int) := Int.natCast_nonneg _
  have i1 : (m : Int) < (m : Int) + 1 := by omega
  have i2 : (m : Int) ≤ (ch : Int) := by omega
  have i3 : ((m : Int) + 1 == 0) = false := by simp; omega
  have i4 : (ch = 0) = False := by simp; omega
  have zp5 := blk_lt T
  have nw0 := World.new_ne w5 _ t0
  have nw1 := World.new_ne w5 _ t1
  go_wp2_with fail
  go_region_held3 (fun w' => w'.cell? ⟨w1.heap.size, 0, none⟩ = some (.slice (some ⟨g, 0, none⟩) n c) ∧ w'.cell? ⟨w1.heap.size, 1, none⟩ = some (.slice (some ⟨gh, 0, none⟩) (m + 1) ch)) (go_keep) (fail)
  have BQ : Below w5.heap.size w5 (w5.alloc (.cells #[.slice (some ⟨g, 0, none⟩) n c, .slice (some ⟨gh, 0, none⟩) m ch] 26)).drew := (by repeat (first | exact bw_refl _ | assumption | apply bw_drewN | apply bw_drew | apply bw_alloc | refine bw_set ?_ (by simp) _))
  have Q : (w5.alloc (.cells #[.slice (some ⟨g, 0, none⟩) n c, .slice (some ⟨gh, 0, none⟩) m ch] 26)).drew.heap[w5.heap.size]? = some (.cells #[.slice (some ⟨g, 0, none⟩) n c, .slice (some ⟨gh, 0, none⟩) m ch] 26 (0, 0)) := heap_new w5 _
  replace K := bw_trans K BQ
  replace T2 := keep BQ T2
  replace hPq := hPq.below BQ
  replace hPt := (hPt.below BQ).grow BQ.size
  clear u0 u1 t0 t1 nw0 nw1
  generalize (w5.alloc (.cells #[.slice (some ⟨g, 0, none⟩) n c, .slice (some ⟨gh, 0, none⟩) m ch] 26)).drew = v5 at *
  obtain ⟨u0, u1⟩ := blk_2 T2
  go_wp2_with fail
  refine (in_any' (some ⟨gt, 0, none⟩) nt ct lt (x, y) k2' _ hPt).mono ?_
  rw [hvl]
  rintro e w6 ⟨rfl, J⟩
  replace K := bw_trans K J
  replace T2 := keep J T2
  replace hPq := hPq.below J
  replace hPt := (hPt.below J).grow J.size
  replace Q := keep J Q
  clear u0 u1 BQ J
  obtain ⟨u0, u1⟩ := blk_2 T2
  obtain ⟨q0, q1⟩ := blk_2 Q
  by_cases hge : 0 ≤ ul
  · obtain ⟨f1, f2⟩ := hF.1 hge
    have nl : IntKind.i64.wrap (-ul) = -ul := wrap_small (by omega) (by omega)
    have hb : (uin == -ul) = true := by simpa using f1
    have hb2 : (uq == 1) = true := by simpa using f2
    go_wp2_with fail
    refine (in_any' (some ⟨gt, 0, none⟩) nt ct lt (x, y) k2' _ hPt).mono ?_
    rw [hvl]
    rintro e w7 ⟨rfl, J⟩
    replace K := bw_trans K J
    replace T2 := keep J T2
    replace hPq := hPq.below J
    replace hPt := (hPt.below J).grow J.size
    replace Q := keep J Q
    clear u0 u1 q0 q1 J
    obtain ⟨u0, u1⟩ := blk_2 T2
    obtain ⟨q0, q1⟩ := blk_2 Q
    go_wp2_with fail
    refine (plateIn_any _ _ n c m ch l _ (x, y) _ hPq).mono ?_
    rw [hvq]
    rintro e w8 ⟨rfl, J⟩
    go_wp2_with fail
    go_ret
    exact ⟨by first | rfl | simp [f2] | simp, bw_trans K J⟩
  · have f1 := hF.2 (by omega)
    have hb : (uq == uin) = true := by simp [f1]
    go_wp2_with fail
    refine (plateIn_any _ _ n c m ch l _ (x, y) _ hPq).mono ?_
    rw [hvq]
    rintro e w7 ⟨rfl, J⟩
    go_wp2_with fail
    go_ret
    exact ⟨by first | rfl | simp [f1] | simp, bw_trans K J⟩
end Go.Proofs.Ythedlopfjlnogaa
namespace Go.Proofs.Ythedlopfjlnogaa
open Go.RowKit Go.Sort

theorem PlD.hole {base : Nat} {W : World} {o : LoopT} {gh ch : Nat} {hs : List LoopT} (h : PlD base W o (.slice (some ⟨gh, 0, none⟩) hs.length ch) hs) {j : Nat} (hj : j < hs.length) :
    ∃ gt nt ct lt, hs[j]? = some (⟨gt, nt, ct, lt⟩ : LoopT) ∧ (hs.map LoopT.l)[j]?.getD [] = lt ∧ W.cell? ⟨gh, j, none⟩ = some (.slice (some ⟨gt, 0, none⟩) nt ct) ∧ 3 ≤ nt ∧ nt ≤ 8 ∧ lt.length = nt ∧ PtBlk W gt ct lt nt := by
  obtain ⟨_, _, hr, ht⟩ := h
  have hc := own_news hr (j := j) (u := (hs[j]).v) (by simp [hj])
  rw [show ((⟨gh, 0, none⟩ : Addr).add j) = ⟨gh, j, none⟩ by unfold Addr.add; split <;> simp_all] at hc
  have hk := ht hs[j] (List.getElem_mem hj)
  have e1 : hs[j]? = some hs[j] := by simp [hj]
  have e2 : (hs.map LoopT.l)[j]?.getD [] = hs[j].l := by simp [hj]
  generalize hs[j] = t at *
  obtain ⟨gt, nt, ct, lt⟩ := t
  obtain ⟨k1, k2, k3, k4, k5, k6, k7⟩ := hk
  exact ⟨gt, nt, ct, lt, e1, e2, hc, k1, k2, k3, k7⟩
theorem blk_pt {W : World} {g c n k : Nat} {l : List P2} (h : PtBlk W g c l n) (hk : k < n) : W.cell? ⟨g, k * 2, none⟩ = some (.int .i64 (ptAt l k).1) ∧ W.cell? ⟨g, k * 2 + 1, none⟩ = some (.int .i64 (ptAt l k).2) := by
  obtain ⟨cur, h, hs, hc⟩ := h
  rw [row_cell h, row_cell h]; exact hc k hk
theorem plt_one {W : World} {a x : Option Addr} {la lx cx b : Nat} {o xs : List P2} {t : TypeId} (hla : la ≤ 1048576) (hO : Pts W.heap.size W a la o) (hb : W.heap[b]? = some (.cells #[.slice x lx cx] t (0, 0))) (hlx : lx ≤ 1048576) (hx : Pts W.heap.size W x lx xs) : Plt W a la (some ⟨b, 0, none⟩) 1 o [xs] := by
  refine ⟨hla, hO, rfl, fun _ => x, fun _ => lx, fun _ => cx, .inr ⟨b, 0, rfl, blk_lt hb, fun j hj => ?_⟩, fun j hj => ?_⟩
  · obtain rfl : j = 0 := by omega
    rw [row_cell hb]; rfl
  · obtain rfl : j = 0 := by omega
    exact ⟨hlx, hx⟩
theorem plt_two {W : World} {a x : Option Addr} {la lx cx b : Nat} {o xs : List P2} {t : TypeId} (hla : la ≤ 1048576) (hO : Pts W.heap.size W a la o) (hb : W.heap[b]? = some (.cells #[.slice x lx cx, .slice x lx cx] t (0, 0))) (hlx : lx ≤ 1048576) (hx : Pts W.heap.size W x lx xs) : Plt W a la (some ⟨b, 0, none⟩) 2 o [xs, xs] := by
  refine ⟨hla, hO, rfl, fun _ => x, fun _ => lx, fun _ => cx, .inr ⟨b, 0, rfl, blk_lt hb, fun j hj => ?_⟩, fun j hj => ?_⟩
  · obtain rfl | rfl : j = 0 ∨ j = 1 := by omega
    · rw [row_cell hb]; rfl
    · rw [row_cell hb]; rfl
  · obtain rfl | rfl : j = 0 ∨ j = 1 := by omega
    · exact ⟨hlx, hx⟩
    · exact ⟨hlx, hx⟩
set_option maxRecDepth 100000 in
set_option maxHeartbeats 8000000 in
theorem plateHoles_walk (w : World) (a0 : Option Addr) (len0 cap0 : Nat) (z0 : List Int) (r0 : IsRow .u8 w a0 len0 cap0 z0) (a1 : Option Addr) (len1 cap1 : Nat) (z1 : List Int) (_ : IsRow .u8 w a1 len1 cap1 z1) :
    Calls Try.prog 4 #[.slice a0 len0 cap0, .slice a1 len1 cap1] w fun e w' => e = .returned (.bool true) ∧ Below w.heap.size w w' := by
  by_cases hl : 1048576 < len0
  · go_enter Try.func4, Try.ntmps4
    go_wp2
    go_ret
    exact ⟨rfl, bw_refl _⟩
  by_cases hl' : 1048576 < len1
  · go_enter Try.func4, Try.ntmps4
    go_wp2
    go_ret
    exact ⟨rfl, bw_refl _⟩
  have hl0 : len0 ≤ 1048576 := by omega
  have hl1 : len1 ≤ 1048576 := by omega
  clear hl hl'
  go_enter Try.func4, Try.ntmps4
  go_wp2_with fail
  refine (drawPlateOk_any w _ r0 (bw_refl _)).mono ?_
  rintro e w1 ⟨⟨g, n, c, l⟩, hv, hs, he, hD, ⟨hs4, hst⟩, J1⟩
  obtain rfl : e = .returned (.agg #[.slice (some ⟨g, 0, none⟩) n c, hv]) := he
  obtain ⟨gh, ch, rfl⟩ : ∃ gh ch, hv = .slice (some ⟨gh, 0, none⟩) hs.length ch := own_seat hD.2.2.1 hst
  obtain ⟨W, hW, BW, T⟩ := boxes1' w1 (.cells #[.slice (some ⟨g, 0, none⟩) n c, .slice (some ⟨gh, 0, none⟩) hs.length ch] 26)
  replace hD := hD.below BW
  have K := bw_trans J1 BW
  go_upto_region 5 with fail
  rw [← hW]
  clear hW BW J1
  have hPl := hD.plt
  obtain ⟨t0, t1⟩ := blk_2 T
  go_wp2_with fail
  refine (plateOk_any _ _ n c hs.length ch l _ _ hPl).mono ?_
  rintro e w2 ⟨rfl, J⟩
  replace K := bw_trans K J
  replace T := keep J T
  replace hD := hD.below J
  replace hPl := hPl.below J
  clear J t0 t1
  obtain ⟨t0, t1⟩ := blk_2 T
  go_wp2_with fail
  refine (sPlateOk_any _ _ n c hs.length ch l _ _ hPl).mono ?_
  rintro e w3 ⟨rfl, J⟩
  replace K := bw_trans K J
  replace T := keep J T
  replace hD := hD.below J
  replace hPl := hPl.below J
  clear J t0 t1
  obtain ⟨t0, t1⟩ := blk_2 T
  cases hv : plV l (hs.map LoopT.l)
  case false =>
    go_wp2_with fail
    refine (sPlateOk_any _ _ n c hs.length ch l _ _ hPl).mono ?_
    rw [hv]
    rintro e w4 ⟨rfl, J⟩
    go_wp2_with fail
    go_ret
    exact ⟨rfl, bw_trans K J⟩
  have hL := (plV_iff _ _).1 hv
  have hs2 : hs.length ≤ 2 := by have := plV_len hv; simpa using this
  have hokO : okV l = true := hL.out
  have hokH : Hid (∀ j, j < hs.length → okV ((hs.map LoopT.l)[j]?.getD []) = true) := fun j hj => hL.ok _ (by rw [List.getElem?_eq_getElem (by simpa using hj), Option.getD_some]; exact List.getElem_mem _)
  have hin : Hid (∀ i, i < hs.length → ∀ k, k < ((hs.map LoopT.l)[i]?.getD []).length → inI l (ptAt ((hs.map LoopT.l)[i]?.getD []) k) = 1) := fun i hi k hk => hole_in hL (by simpa using hi) hk
  have hout : Hid (∀ i j, i < hs.length → j < hs.length → i ≠ j → ∀ k, k < ((hs.map LoopT.l)[i]?.getD []).length → inI ((hs.map LoopT.l)[j]?.getD []) (ptAt ((hs.map LoopT.l)[i]?.getD []) k) = -1) := fun i j hi hj hij k hk => hole_out hL (by simpa using hi) (by simpa using hj) hij hk
  have hgP := hD.1
  obtain ⟨o1, o2, o3, o4, o5, o6, o7⟩ := hgP
  have o2' : n ≤ 1048576 := by have : n ≤ 8 := o2; omega
  have hPo := blk_pts o7 o3
  go_wp2_with fail
  go_loopw [7] (fun i wr => ∃ k : Nat, k ≤ hs.length ∧ i = .int .i64 k ∧ Below w3.heap.size w3 wr) (fun i _ => hs.length - (intOf i).toNat)
  case atStart => exact ⟨0, Nat.zero_le _, rfl, bw_refl _⟩
  case round =>
    obtain ⟨i, hi, rfl, hnx⟩ := hrel
    rename World => wo
    by_cases hlt : i < hs.length
    case pos =>
      obtain ⟨t0', t1'⟩ := blk_2 (keep hnx T)
      have ii0 : (0 : Int) ≤ (i : Int) := Int.natCast_nonneg _
      have ii1 : (i : Int) < (hs.length : Int) := by omega
      obtain ⟨gt, nt, ct, lt, ht1, ht2, htc, nt3, nt8, htl, htb⟩ := (hD.below hnx).hole hlt
      have hokt : Hid (okV lt = true) := by have := hokH.out i hlt; rw [ht2] at this; exact this
      clear t0 t1
      go_wp2_with fail
      go_loopw [8] (fun k wr => ∃ j : Nat, j ≤ nt ∧ k = .int .i64 j ∧ Below wo.heap.size wo wr) (fun k _ => nt - (intOf k).toNat)
      case atStart => exact ⟨0, Nat.zero_le _, rfl, bw_refl _⟩
      case round =>
        obtain ⟨j, hj, rfl, hn2⟩ := hrel
        rename World => wi
        have zz : wo.heap.size ≤ wi.heap.size := hn2.size
        clear t0' t1'
        have T2 := keep hn2 (keep hnx T)
        obtain ⟨t0, t1⟩ := blk_2 T2
        have hgh : gh < wo.heap.size := ((hD.below hnx).2.2.1.lt gh rfl).2
        have htc2 := (hn2.cell (p := ⟨gh, i, none⟩) hgh).trans htc
        have htb2 := htb.below hn2
        by_cases hjt : j < nt
        case pos =>
          have jj0 : (0 : Int) ≤ (j : Int) := Int.natCast_nonneg _
          have jj1 : (j : Int) < (nt : Int) := by omega
          obtain ⟨p0, p1⟩ := blk_pt htb2 hjt
          have hpB := okV_pt hokt.out (i := j) (by omega)
          have hi1 : inV l (ptAt lt j) = 1 := by rw [inV_ok hokO hpB]; have := hin.out i hlt j (by rw [ht2]; omega); rw [ht2] at this; exact this
          have hPo2 := ((hPo.below (bw_trans hnx hn2)).grow (bw_trans hnx hn2).size)
          obtain ⟨px, hpx⟩ : ∃ q, (ptAt lt j).1 = q := ⟨_, rfl⟩
          obtain ⟨py, hpy⟩ : ∃ q, (ptAt lt j).2 = q := ⟨_, rfl⟩
          have hpp : ptAt lt j = (px, py) := Prod.ext hpx hpy
          rw [hpx, hpy] at hpB
          rw [hpp] at hi1
          rw [hpx] at p0
          rw [hpy] at p1
          obtain ⟨W3, hW3, B3, At⟩ := boxes1' wi (.cells #[.int .i64 px, .int .i64 py] 33)
          have T3 := keep B3 T2
          have zwi := blk_lt T2
          have K3 := bw_trans (bw_trans hnx hn2) B3
          have hPo3 := (hPo2.below B3).grow B3.size
          clear hPo2
          go_wp2_with fail
          rw [← hW3]
          clear hW3
          refine (in_any' (some ⟨g, 0, none⟩) n c l (px, py) o2' _ hPo3).mono ?_
          rw [hi1]
          rintro e w6 ⟨rfl, J⟩
          have T6 := keep J T3
          have At6 := keep J At
          have K6 := bw_trans K3 J
          have hD6 := hD.below K6
          have n6 : Below wo.heap.size wo w6 := bw_trans (bw_trans hn2 B3) J
          clear t0 t1 J T3 At hPo3 K3
          obtain ⟨t0, t1⟩ := blk_2 T6
          go_wp2_with fail
          go_loopw [10] (fun nn wr => ∃ q : Nat, q ≤ hs.length ∧ nn = .int .i64 q ∧ Below w6.heap.size w6 wr) (fun nn _ => hs.length - (intOf nn).toNat)
          case atStart => exact ⟨0, Nat.zero_le _, rfl, bw_refl _⟩
          case round =>
            obtain ⟨q, hq, rfl, hn3⟩ := hrel
            rename World => wn
            clear t0 t1
            have T7 := keep hn3 T6
            obtain ⟨t0, t1⟩ := blk_2 T7
            obtain ⟨a0', a1'⟩ := blk_2 (keep hn3 At6)
            by_cases hqn : q < hs.length
            case pos =>
              have q0 : (0 : Int) ≤ (q : Int) := Int.natCast_nonneg _
              have q1 : (q : Int) < (hs.length : Int) := by omega
              by_cases hqi : q = i
              · subst hqi
                have hb : ((q : Int) != (q : Int)) = false := by simp
                go_wp2_with fail
                refine wp_region_quiet_below (by kernel_rfl) (by kernel_rfl) ?_
                repeat (first | go_big_quiet_step (fail))
                refine wpQuiet_nil ?_
                intro _ hw'
                obtain ⟨⟨dq, osq⟩, hw''⟩ := hw'
                subst hw''
                have J := below_regrown wn dq osq
                generalize grow (redrawn wn dq) osq = w8 at J ⊢
                go_wp2_with fail
                go_roundw
                case rel => exact ⟨q + 1, by omega, by simp, bw_trans hn3 J⟩
                case measure => simp [intOf]; omega
              · have hb : ((q : Int) != (i : Int)) = true := by simp; omega
                have hD7 := hD6.below hn3
                obtain ⟨gq, nq, cq, lq, hq1, hq2, hqc, nq3, nq8, hql, hqb⟩ := hD7.hole hqn
                have hokq : okV lq = true := by have := hokH.out q hqn; rw [hq2] at this; exact this
                have hiq : inV lq (px, py) = -1 := by
                  rw [inV_ok hokq hpB]
                  have := hout.out i q hlt hqn (fun e => hqi e.symm) j (by rw [ht2]; omega)
                  rw [ht2, hq2, hpp] at this; exact this
                have hPq := blk_pts hqb hql
                have HW : Hid (∀ d os, Calls Try.prog 15 #[.slice (some ⟨gq, 0, none⟩) nq cq, .agg #[.int .i64 px, .int .i64 py]] (grow (redrawn wn d) os) fun e W' => e = .returned (.int .i64 (-1)) ∧ Below (grow (redrawn wn d) os).heap.size (grow (redrawn wn d) os) W') := fun d os => by
                  have := in_any' (some ⟨gq, 0, none⟩) nq cq lq (px, py) (by omega) _ ((hPq.below (below_regrown wn d os)).grow (below_regrown wn d os).size)
                  rwa [hiq] at this
                obtain ⟨t2, t3⟩ := reg_2 T7
                obtain ⟨a2', a3'⟩ := reg_2 (keep hn3 At6)
                have hqc' := cell_regrown hqc
                clear hqc hiq
                go_wp2_with fail
                refine wp_region_quiet_below (by kernel_rfl) (by kernel_rfl) ?_
                repeat (first | go_big_quiet_step (first | (go_at_call 15; with_reducible exact Calls.regrown_of (HW.out _ _))))
                refine wpQuiet_nil ?_
                intro _ hw'
                obtain ⟨⟨dq, osq⟩, hw''⟩ := hw'
                subst hw''
                have J := below_regrown wn dq osq
                generalize grow (redrawn wn dq) osq = w8 at J ⊢
                go_wp2_with fail
                go_roundw
                case rel => exact ⟨q + 1, by omega, by simp, bw_trans hn3 J⟩
                case measure => simp [intOf]; omega
            case neg =>
              obtain rfl : q = hs.length := by omega
              go_wp2_with fail
              go_roundw
              case rel => exact ⟨j + 1, by omega, by simp, bw_trans n6 hn3⟩
              case measure => simp [intOf]; omega
        case neg =>
          obtain rfl : j = nt := by omega
          go_wp2_with fail
          go_roundw
          case rel => exact ⟨i + 1, by omega, by simp, bw_trans hnx hn2⟩
          case measure => simp [intOf]; omega
    case neg =>
      obtain rfl : i = hs.length := by omega
      have T4 := keep hnx T
      have zT4 := blk_lt T4
      have K4 := bw_trans K hnx
      have hD4 := hD.below hnx
      clear t0 t1
      obtain ⟨t0, t1⟩ := blk_2 T4
      obtain ⟨W5, hW5, B5, Row, Q5⟩ := boxes2 wo (.cells #[.slice (some ⟨g, 0, none⟩) n c] 23) (.cells #[.slice (some ⟨g, 0, none⟩) n c, .slice (some ⟨wo.heap.size, 0, none⟩) 1 1] 26)
      have hD5 := hD4.below B5
      have hPo5 := ((hPo.below (bw_trans hnx B5)).grow (bw_trans hnx B5).size)
      have hq1 := plt_one o2' hPo5 Row o2' hPo5
      have T5 := keep B5 T4
      have K5 := bw_trans K4 B5
      have hself := plV_self hokO
      by_cases h0 : hs.length = 0
      case pos =>
        have h0' : ((hs.length : Int) == 0) = true := by simp [h0]
        go_wp2_with fail
        rw [← hW5]
        refine (plateOk_any _ _ n c 1 1 l _ _ hq1).mono ?_
        rw [hself]
        rintro e w6 ⟨rfl, J⟩
        go_wp2_with fail
        go_ret
        exact ⟨rfl, bw_trans K5 J⟩
      case neg =>
        have h0' : ((hs.length : Int) == 0) = false := by rw [beq_eq_false_iff_ne]; omega
        obtain ⟨md, hmd⟩ : ∃ md : Nat, (len1 : Int).tmod (hs.length : Int) = (md : Int) := ⟨((len1 : Int).tmod (hs.length : Int)).toNat, by rw [Int.toNat_of_nonneg]; exact (tmod_bd (len1 : Int) (hs.length : Int) (by omega) (by omega)).1⟩
        have hmd2 : md < hs.length := by have := (tmod_bd (len1 : Int) (hs.length : Int) (by omega) (by omega)).2; omega
        have m0 : (0 : Int) ≤ (md : Int) := Int.natCast_nonneg _
        have m1 : (md : Int) < (hs.length : Int) := by omega
        have hnz : (hs.length = 0) = False := by simpa using h0
        obtain ⟨gt, nt, ct, lt, ht1, ht2, htc, nt3, nt8, htl, htb⟩ := hD5.hole hmd2
        have hokt : okV lt = true := by have := hokH.out md hmd2; rw [ht2] at this; exact this
        have har : arB l lt = true := by
          have := hL.ar ((hs.map LoopT.l)[md]?.getD []) (by rw [List.getElem?_eq_getElem (by simpa using hmd2), Option.getD_some]; exact List.getElem_mem _)
          rw [ht2] at this; exact this
        have htwo : plV l [lt, lt] = false := plV_twice hokt
        have htur : plV lt [l] = false := plV_turned hokO hokt har
        have hPt5 := blk_pts htb htl
        have htc' := cell_regrown htc
        go_wp2_with fail
        rw [← hW5]
        clear t0 t1 hW5
        obtain ⟨t0, t1⟩ := reg_2 T5
        refine wp_region_quiet_below (by kernel_rfl) (by kernel_rfl) ?_
        repeat (first | go_big_quiet_step (fail))
        refine wpQuiet_nil ?_
        intro _ hw'
        obtain ⟨⟨dq, osq⟩, hw''⟩ := hw'
        subst hw''
        have J := below_regrown W5 dq osq
        generalize grow (redrawn W5 dq) osq = w6 at J ⊢
        have T6 := keep J T5
        have Q6 := keep J Q5
        have K6 := bw_trans K5 J
        have hq6 := hq1.below J
        have hPt6 := (hPt5.below J).grow J.size
        have hPo6 := (hPo5.below J).grow J.size
        clear t0 t1 J
        obtain ⟨t0, t1⟩ := blk_2 T6
        obtain ⟨q0, q1⟩ := blk_2 Q6
        go_wp2_with fail
        refine (plateOk_any _ _ n c 1 1 l _ _ hq6).mono ?_
        rw [hself]
        rintro e w7 ⟨rfl, J⟩
        have T7 := keep J T6
        have K7 := bw_trans K6 J
        have hPt7 := (hPt6.below J).grow J.size
        have hPo7 := (hPo6.below J).grow J.size
        clear t0 t1 q0 q1 J
        obtain ⟨t0, t1⟩ := blk_2 T7
        have zT7 := blk_lt T7
        obtain ⟨W8, hW8, B8, Row8⟩ := boxes1' w7 (.cells #[.slice (some ⟨gt, 0, none⟩) nt ct, .slice (some ⟨gt, 0, none⟩) nt ct] 23)
        have hq8 := plt_two o2' ((hPo7.below B8).grow B8.size) Row8 (show nt ≤ 1048576 by omega) ((hPt7.below B8).grow B8.size)
        go_wp2_with fail
        rw [← hW8]
        clear hW8
        refine (plateOk_any _ _ n c 2 2 l _ _ hq8).mono ?_
        rw [htwo]
        rintro e w9 ⟨rfl, J⟩
        have J8 := bw_trans B8 J
        have T9 := keep J8 T7
        have K9 := bw_trans K7 J8
        have hPt9 := (hPt7.below J8).grow J8.size
        have hPo9 := (hPo7.below J8).grow J8.size
        clear t0 t1 J hq8 Row8
        obtain ⟨t0, t1⟩ := blk_2 T9
        have zT9 := blk_lt T9
        obtain ⟨W10, hW10, B10, Row10⟩ := boxes1' w9 (.cells #[.slice (some ⟨g, 0, none⟩) n c] 23)
        have hq10 := plt_one (show nt ≤ 1048576 by omega) ((hPt9.below B10).grow B10.size) Row10 o2' ((hPo9.below B10).grow B10.size)
        go_wp2_with fail
        rw [← hW10]
        clear hW10
        refine (plateOk_any _ _ nt ct 1 1 lt _ _ hq10).mono ?_
        rw [htur]
        rintro e w11 ⟨rfl, J⟩
        go_wp2_with fail
        go_ret
        exact ⟨rfl, bw_trans K9 (bw_trans B10 J)⟩
end Go.Proofs.Ythedlopfjlnogaa
namespace Go.Proofs.Ythedlopfjlnogaa
open Go.RowKit

/-- What such an iterator promises, if no round says 'no more'. -/
def SeqO {α : Type} (F : Fence) (n : Nat) (P : Program) (g : Nat) (lb : Array Value) (encs : α → Array Value) (Kp : World → World → Prop) (all : List α) (w : World) : Prop :=
  ∀ (l : Nat) (J : List α → World → Prop) (W : World), Below w.heap.size w W → OwnFrom W.heap.size J →
    (∀ pre x W1, J pre W1 → pre.length < all.length → YieldAt F (n - 1) P l (encs x) W1 fun e W' => e = .returned (.bool true) ∧ J (pre ++ [x]) W' ∧ Kp W1 W' ∧ KeepsFrom W.heap.size W1 W') →
    J [] W → CallsIn F n P g (#[.func (.yield l) #[] #[]] ++ lb) W fun e W' => (∃ v, e = .returned v) ∧ J all W'
theorem keeps_far {B B' : Nat} {W W' : World} (h : KeepsFrom B W W') (hB : B ≤ B') : KeepsFrom B' W W' := ⟨h.size, fun k o hk => h.same k o (Nat.le_trans hB hk)⟩
theorem keepsFrom_put {B l : Nat} (W : World) (o : Obj) (hl : l < B) : KeepsFrom B W (W.putObj l o) := ⟨by simp, fun k _ hk h _ => (World.putObj_heap_other (by omega)).trans h⟩
/-- How a round ends: it goes on. -/
def onO {α : Type} (B : Nat) (Kp : World → World → Prop) (I : List α → World → Prop) (xs : List α) (W : World) : Exit → Act → World → Prop
  | .normal, _, W' => KeepsFrom B W W' ∧ Kp W W' ∧ I xs W'
  | _, _, _ => False
set_option maxHeartbeats 1000000 in
theorem wpIn_rangeO {F : Fence} {n : Nat} {P : Program} {α : Type} {g : Operand} {ps : Array Tmp} {assign body : Code} {Q : Exit → Act → World → Prop} {a : Act} {w : World}
    (hro : F.round = none) (h1 : 1 ≤ n) {gf : Nat} {lb : Array Value} (hg : a.eval g = .func (.func gf) #[] lb) (hFg : F.fn gf) (eg : ∀ args w, (callFunc gf args).run P w = .ok (.enter gf args) w)
    {encs : α → Array Value} {Kp : World → World → Prop} {all : List α} {w0 : World} (hseq : SeqO F (n - 1) P gf lb encs Kp all w0)
    (hKt : ∀ {A B C : World}, Kp A B → Kp B C → Kp A C) (hKb : ∀ (W : World) (l : Nat) (o o' : Obj), w.heap.size ≤ l → W.heap[l]? = some o → o.isCells = false → o.isWalk = false → Kp W (W.putObj l o'))
    (hb0 : Below w0.heap.size w0 w) (hps : ∀ x, (encs x).size = ps.size)
    (I : List α → World → Prop) (hI : OwnFrom w.heap.size I) (h0 : I [] w) (Ax : α → Act → World → Prop) (hAx : ∀ x a', OwnFrom w.heap.size (fun (_ : Unit) W => Ax x a' W))
    (hassign : ∀ (l : Nat) (pre : List α) (x : α) (W : World) (K : Act → World → Prop), I pre W → (∀ a' W', KeepsFrom w.heap.size W W' → Kp W W' → I pre W' → Ax x a' W' → K a' W') →
      assign.wpIn (F.inRound l) (n - 1 - 1) P (Exit.then K (fun _ _ _ => False)) { tmps := (ps.zip (encs x)).foldl (fun t (p, v) => t.setIfInBounds p v) a.tmps, defers := [] } W)
    (hbody : ∀ (l : Nat) (pre : List α) (x : α) (a' : Act) (W : World), w.heap.size ≤ l → I pre W → Ax x a' W → pre.length < all.length → body.wpIn (F.inRound l) (n - 1 - 1) P (onO w.heap.size Kp I (pre ++ [x]) W) a' W)
    (hdone : ∀ (D : Nat) (W : World), w.heap.size ≤ D → I all W → W.heap[D]? = some (.deferred (some [])) → Q .normal { a with defers := { target := .collected D, args := #[] } :: a.defers } W) :
    (Code.rangeFunc g ps assign body).wpIn F n P Q a w := by
  refine wpIn_rangeFunc ?_
  intro fn hfn
  rw [hro]
  obtain ⟨mk, hmk⟩ : ∃ mk : LoopState → Option Code → Loop, mk = fun st pe => { state := st, pending := pe, fn, tmps := a.tmps, params := ps, assign, body, defers := w.heap.size } := ⟨_, rfl⟩
  -- the two blocks of the loop's own books
  have book : ∀ W : World, ((w.alloc (.deferred (some []))).alloc (.loop (mk .ready none))) = W → W.heap[w.heap.size + 1]? = some (.loop (mk .ready none)) ∧ W.heap[w.heap.size]? = some (.deferred (some [])) ∧ I [] W ∧ Below w0.heap.size w0 W ∧ W.heap.size = w.heap.size + 2 := by
    rintro W rfl
    refine ⟨?_, ?_, hI.alloc _ (hI.alloc _ h0), ?_, by simp⟩
    · have := World.alloc_heap_new (w.alloc (.deferred (some []))) (.loop (mk .ready none)); rwa [World.size_alloc] at this
    · exact (Below.heap_alloc _ _ _ (by simp)).trans (World.alloc_heap_new w _)
    · exact hb0.trans ((((Below.refl _ w).alloc (Nat.le_refl _) _).alloc (by simp) _).mono hb0.size)
  obtain ⟨V, hV⟩ : ∃ V, (w.alloc (.deferred (some []))).alloc (.loop (mk .ready none)) = V := ⟨_, rfl⟩
  obtain ⟨hL, hK, hIV, hbV, hsz⟩ := book V hV
  refine ⟨w.heap.size + 1, [{ target := .collected w.heap.size, args := #[] }], V, { target := .fn (.func gf) lb, args := #[.func (.yield (w.heap.size + 1)) #[] #[]] }, V, gf, #[.func (.yield (w.heap.size + 1)) #[] #[]] ++ lb, V, ?_, ?_, ?_, ?_, fun _ => h1, ?_⟩
  · rw [← hV, hmk]; exact run_enterLoop_outer _ _ _ _ _
  · simp only [resolve, hg]
    simp [go_sem]
  · intro f' hf'
    simp [Target.leads] at hf'
    subst hf'
    exact hFg
  · simp [invoke, go_sem, eg]
  have keepB : ∀ {A B : World} {row : Option Nat} (k : Nat) (o : Obj), k < V.heap.size → A.grownBy B row → (∀ r, row = some r → V.heap.size ≤ r ∧ ∃ o : Obj, A.heap[r]? = some o ∧ o.isCells = false) → A.heap[k]? = some o → B.heap[k]? = some o := fun {A B row} k o hk hg' hr h =>
    (hg'.block k (Array.getElem?_eq_some_iff.1 h).1 (fun e => by have := (hr k e.symm).1; omega)).trans h
  refine (hseq (w.heap.size + 1) (fun pre W => I pre W ∧ W.heap[w.heap.size + 1]? = some (.loop (mk .ready none)) ∧ W.heap[w.heap.size]? = some (.deferred (some []))) V hbV
    (fun s A B row hs hg' hr => ⟨hI s A B row hs.1 hg' (fun r e => ⟨by have := (hr r e).1; omega, (hr r e).2⟩), keepB _ _ (by omega) hg' hr hs.2.1, keepB _ _ (by omega) hg' hr hs.2.2⟩) ?_ ⟨hIV, hL, hK⟩).mono ?_
  · rintro pre x W ⟨hi, hl, hk⟩ hlen
    have hy := run_yield (P := P) (args := encs x) hl (by rw [hmk]; exact hps x)
    rw [hmk] at hy
    refine ⟨fn, _, assign, body, hy, roundIn_of_wpIn hfn (hassign _ pre x W _ hi ?_)⟩
    clear hy
    intro a' U hkf hkp hiU hax
    have hlU := hkf.same _ _ (by omega) hl rfl
    have hkU := hkf.same _ _ (Nat.le_refl _) hk rfl
    have hltU : w.heap.size + 1 < U.heap.size := (Array.getElem?_eq_some_iff.1 hlU).1
    refine ⟨_, run_beginRound hlU (by rw [hmk]), ?_⟩
    obtain ⟨U2, hU2⟩ : ∃ U2, U.putObj (w.heap.size + 1) (.loop { mk .ready none with state := .busy }) = U2 := ⟨_, rfl⟩
    have hlU2 : U2.heap[w.heap.size + 1]? = some (.loop { mk .ready none with state := .busy }) := by rw [← hU2]; exact World.putObj_heap_same hltU
    have hkU2 : U2.heap[w.heap.size]? = some (.deferred (some [])) := by rw [← hU2]; exact (World.putObj_heap_other (by omega)).trans hkU
    have hpU2 : Kp U U2 := by rw [← hU2]; exact hKb _ _ _ _ (by omega) hlU rfl rfl
    have hiU2 : I pre U2 := by rw [← hU2]; exact hI.putObj _ hiU (by omega) hlU rfl
    have haU2 : Ax x a' U2 := by rw [← hU2]; exact (hAx x a').putObj (s := ()) _ hax (by omega) hlU rfl
    rw [hU2]
    refine wpIn_mono (hbody _ pre x a' _ (by omega) hiU2 haU2 hlen) ?_
    rintro e a3 W3 hp
    cases e with
    | normal =>
      obtain ⟨hk3, hp3, hi3⟩ := hp
      have hl3 := hk3.same _ _ (by omega) hlU2 rfl
      have hd3 := hk3.same _ _ (Nat.le_refl _) hkU2 rfl
      have hend := run_endRound (P := P) none hl3
      rw [hmk] at hend hl3 ⊢
      refine ⟨_, _, hend, rfl, ⟨hI.putObj _ hi3 (by omega) hl3 rfl, World.putObj_heap_same (Array.getElem?_eq_some_iff.1 hl3).1, (World.putObj_heap_other (by omega)).trans hd3⟩, ?_⟩
      refine ⟨hKt hkp (hKt hpU2 (hKt hp3 (hKb _ _ _ _ (by omega) hl3 rfl rfl))), ?_⟩
      have hU : KeepsFrom V.heap.size U U2 := by rw [← hU2]; exact keepsFrom_put _ _ (by omega)
      exact ((keeps_far hkf (by omega)).trans hU).trans ((keeps_far hk3 (by omega)).trans (keepsFrom_put _ _ (by omega)))
    | ret => exact hp.elim
    | exit id => exact hp.elim
    | goto t => exact hp.elim
    | panic ch => exact hp.elim
    | outgrown => exact hp.elim
  · rintro e W2 ⟨⟨v, rfl⟩, hi, hl, hk⟩
    exact ⟨none, _, by have := run_endLoop (P := P) hl (by rw [hmk]; simp); rw [hmk] at this; exact this, hdone _ _ (Nat.le_refl _) (hI.putObj _ hi (by omega) hl rfl) ((World.putObj_heap_other (by omega)).trans hk)⟩
end Go.Proofs.Ythedlopfjlnogaa
namespace Go.Proofs.Ythedlopfjlnogaa
open Go.RowKit Go.Sort

/-- A block of our own of so many cells. -/
def Own (W : World) (g n : Nat) (t : TypeId) : Prop := ∃ cur : Array Value, W.heap[g]? = some (.cells cur t (0, 0)) ∧ cur.size = n
theorem Own.lt {W : World} {g n : Nat} {t : TypeId} (h : Own W g n t) : g < W.heap.size := by obtain ⟨cur, h, _⟩ := h; exact (Array.getElem?_eq_some_iff.1 h).1
theorem Own.room {W : World} {g n i : Nat} {t : TypeId} (h : Own W g n t) (hi : i < n) : (∃ u, W.cell? ⟨g, i, none⟩ = some u) ∧ W.frozen? ⟨g, i, none⟩ = false := by
  obtain ⟨cur, h, hs⟩ := h
  exact ⟨⟨cur[i]'(by omega), by rw [row_cell h]; exact Array.getElem?_eq_getElem _⟩, row_frozen h⟩
theorem Own.set {W : World} {g n i : Nat} {t : TypeId} (h : Own W g n t) (v : Value) : Own (W.setCell ⟨g, i, none⟩ v) g n t := by
  obtain ⟨cur, h, hs⟩ := h
  exact ⟨_, setCell_row h v, by simpa using hs⟩
theorem Own.below {W W' : World} {g n : Nat} {t : TypeId} (h : Own W g n t) (J : Below W.heap.size W W') : Own W' g n t := by
  have hl := h.lt
  obtain ⟨cur, h, hs⟩ := h
  exact ⟨cur, (J.block g hl).trans h, hs⟩
theorem Own.only {W W' : World} {g n r : Nat} {t : TypeId} (h : Own W g n t) (O : Only r W W') (hne : g ≠ r) : Own W' g n t := by
  have hl := h.lt
  obtain ⟨cur, h, hs⟩ := h
  exact ⟨cur, (O.block g hne hl).trans h, hs⟩
theorem own_set_cell {W : World} {g n i j : Nat} {t : TypeId} (h : Own W g n t) (hi : i < n) (v : Value) : (W.setCell ⟨g, i, none⟩ v).cell? ⟨g, j, none⟩ = if i = j then some v else W.cell? ⟨g, j, none⟩ := by
  obtain ⟨cur, h, hs⟩ := h
  rw [row_cell (setCell_row h v), row_cell h, Array.getElem?_setIfInBounds]
  by_cases e : i = j
  · rw [if_pos e, if_pos e, if_pos (by omega)]
  · rw [if_neg e, if_neg e]
/-- The cells of a block, from the first on, are k, k + 1, and so on. -/
def Num (W : World) (g n : Nat) (k : Int) : Prop := ∀ j, j < n → W.cell? ⟨g, j, none⟩ = some (.int .i64 (k + j))
theorem Num.below {W W' : World} {g n : Nat} {k : Int} (h : Num W g n k) (hg : g < W.heap.size) (J : Below W.heap.size W W') : Num W' g n k := fun j hj => (J.cell (p := ⟨g, j, none⟩) hg).trans (h j hj)
theorem Num.snoc {W : World} {g n m : Nat} {t : TypeId} {k u : Int} (h : Own W g n t) (hN : Num W g m k) (hm : m < n) (hu : u = k + m) : Num (W.setCell ⟨g, m, none⟩ (.int .i64 u)) g (m + 1) k := by
  intro j hj
  rw [own_set_cell h hm]
  by_cases e : m = j
  · rw [if_pos e, hu, e]
  · rw [if_neg e]; exact hN j (by omega)
set_option maxRecDepth 100000 in
set_option maxHeartbeats 1000000 in
theorem markPts_any (g len cap n : Nat) (k : Int) (w : World) (hb : Own w g n 33) (hn : len * 2 ≤ n) (hlen : len ≤ 1048576) (k0 : 0 ≤ k) (k1 : k ≤ 1125899906842624) :
    Calls Try.prog 37 #[.slice (some ⟨g, 0, none⟩) len cap, .int .i64 k] w fun e w' => e = .returned (.int .i64 (k + 2 * len)) ∧ Own w' g n 33 ∧ Only g w w' := by
  go_enter Try.func37, Try.ntmps37
  go_wp2_with fail
  go_loopw [1, 5] (fun kk i wr => ∃ (j : Nat) (u : Int), j ≤ len ∧ i = .int .i64 j ∧ kk = .int .i64 u ∧ u = k + 2 * (j : Int) ∧ Own wr g n 33 ∧ Only g w wr) (fun _ i _ => len - (intOf i).toNat)
  case atStart => exact ⟨0, k, Nat.zero_le _, rfl, rfl, by simp, hb, Only.refl _ _⟩
  case round =>
    obtain ⟨j, u, hj, rfl, rfl, hu, hO, P⟩ := hrel
    by_cases hlt : j < len
    · have u0 : 0 ≤ u := by omega
      have u1 : u ≤ 2251799813685248 := by omega
      have Hu : Hid (u = k + 2 * (j : Int)) := hu
      clear hu
      have i0 : (0 : Int) ≤ (j : Int) := Int.natCast_nonneg _
      have i1 : (j : Int) < (len : Int) := by omega
      obtain ⟨⟨s0, r0⟩, z0⟩ := hO.room (i := j * 2) (by omega)
      obtain ⟨⟨s1, r1⟩, z1⟩ := hO.room (i := j * 2 + 1) (by omega)
      go_wp2_with fail
      go_roundw
      case rel => exact ⟨j + 1, u + 1 + 1, by omega, by simp, by simp, by rw [Hu.out]; omega, (hO.set _).set _, (P.set (.inl rfl) _).set (.inl rfl) _⟩
      case measure => simp [intOf]; omega
    · obtain rfl : j = len := by omega
      go_wp2
      go_ret
      exact ⟨by first | exact hu | (simp; omega) | (subst hu; rfl), hO, P⟩
set_option maxRecDepth 100000 in
set_option maxHeartbeats 1000000 in
theorem markSegs_any (g len cap n : Nat) (k : Int) (w : World) (hb : Own w g n 44) (hn : len * 4 ≤ n) (hlen : len ≤ 1048576) (k0 : 0 ≤ k) (k1 : k ≤ 1099511627776) :
    Calls Try.prog 31 #[.slice (some ⟨g, 0, none⟩) len cap, .int .i64 k] w fun e w' => e = .returned (.int .i64 (k + 4 * len)) ∧ Num w' g (len * 4) k ∧ Own w' g n 44 ∧ Only g w w' := by
  go_enter Try.func31, Try.ntmps31
  go_wp2_with fail
  go_loopw [1, 5] (fun kk i wr => ∃ (j : Nat) (u : Int), j ≤ len ∧ i = .int .i64 j ∧ kk = .int .i64 u ∧ u = k + 4 * (j : Int) ∧ Num wr g (j * 4) k ∧ Own wr g n 44 ∧ Only g w wr) (fun _ i _ => len - (intOf i).toNat)
  case atStart => exact ⟨0, k, Nat.zero_le _, rfl, rfl, by simp, fun j hj => by omega, hb, Only.refl _ _⟩
  case round =>
    obtain ⟨j, u, hj, rfl, rfl, hu, hN, hO, P⟩ := hrel
    by_cases hlt : j < len
    · have u0 : 0 ≤ u := by omega
      have u1 : u ≤ 8796093022208 := by omega
      have Hu : Hid (u = k + 4 * (j : Int)) := hu
      clear hu
      have i0 : (0 : Int) ≤ (j : Int) := Int.natCast_nonneg _
      have i1 : (j : Int) < (len : Int) := by omega
      obtain ⟨⟨s0, r0⟩, z0⟩ := hO.room (i := j * 4) (by omega)
      obtain ⟨⟨s1, r1⟩, z1⟩ := hO.room (i := j * 4 + 1) (by omega)
      obtain ⟨⟨s2, r2⟩, z2⟩ := hO.room (i := j * 4 + 2) (by omega)
      obtain ⟨⟨s3, r3⟩, z3⟩ := hO.room (i := j * 4 + 3) (by omega)
      go_wp2_with fail
      have hO1 := hO.set (i := j * 4) (.int .i64 u)
      have hO2 := hO1.set (i := j * 4 + 1) (.int .i64 (u + 1))
      have hO3 := hO2.set (i := j * 4 + 2) (.int .i64 (u + 1 + 1))
      have hN1 := hN.snoc hO (u := u) (by omega) (by rw [Hu.out]; simp; omega)
      have hN2 := hN1.snoc hO1 (u := u + 1) (by omega) (by rw [Hu.out]; simp; omega)
      have hN3 := hN2.snoc hO2 (u := u + 1 + 1) (by omega) (by rw [Hu.out]; simp; omega)
      have hN4 := hN3.snoc hO3 (u := u + 1 + 1 + 1) (by omega) (by rw [Hu.out]; simp; omega)
      go_roundw
      case rel => exact ⟨j + 1, u + 1 + 1 + 1 + 1, by omega, by simp, by simp, by rw [Hu.out]; omega, fun i hi => hN4 i (by omega), hO3.set _, (((P.set (.inl rfl) _).set (.inl rfl) _).set (.inl rfl) _).set (.inl rfl) _⟩
      case measure => simp [intOf]; omega
    · obtain rfl : j = len := by omega
      go_wp2
      go_ret
      exact ⟨by first | exact hu | (simp; omega) | (subst hu; rfl), hN, hO, P⟩
set_option maxRecDepth 100000 in
set_option maxHeartbeats 1000000 in
theorem heldSegs_any (g len cap : Nat) (k : Int) (w : World) (hN : Num w g (len * 4) k) (hg : g < w.heap.size) (hlen : len ≤ 1048576) (k0 : 0 ≤ k) (k1 : k ≤ 1099511627776) :
    Calls Try.prog 32 #[.slice (some ⟨g, 0, none⟩) len cap, .int .i64 k] w fun e w' => e = .returned (.int .i64 (k + 4 * len)) ∧ Below w.heap.size w w' := by
  go_enter Try.func32, Try.ntmps32
  go_wp2_with fail
  go_loopw [1, 5] (fun kk i wr => ∃ (j : Nat) (u : Int), j ≤ len ∧ i = .int .i64 j ∧ kk = .int .i64 u ∧ u = k + 4 * (j : Int) ∧ Below w.heap.size w wr) (fun _ i _ => len - (intOf i).toNat)
  case atStart => exact ⟨0, k, Nat.zero_le _, rfl, rfl, by simp, bw_refl _⟩
  case round =>
    obtain ⟨j, u, hj, rfl, rfl, hu, hnx⟩ := hrel
    by_cases hlt : j < len
    · have u0 : 0 ≤ u := by omega
      have u1 : u ≤ 8796093022208 := by omega
      have Hu : Hid (u = k + 4 * (j : Int)) := hu
      have hNr := hN.below hg hnx
      have c0 : wr.cell? ⟨g, j * 4, none⟩ = some (.int .i64 u) := by rw [hNr _ (by omega)]; congr 2; rw [hu]; simp; omega
      have c1 : wr.cell? ⟨g, j * 4 + 1, none⟩ = some (.int .i64 (u + 1)) := by rw [hNr _ (by omega)]; congr 2; rw [hu]; simp; omega
      have c2 : wr.cell? ⟨g, j * 4 + 2, none⟩ = some (.int .i64 (u + 1 + 1)) := by rw [hNr _ (by omega)]; congr 2; rw [hu]; simp; omega
      have c3 : wr.cell? ⟨g, j * 4 + 3, none⟩ = some (.int .i64 (u + 1 + 1 + 1)) := by rw [hNr _ (by omega)]; congr 2; rw [hu]; simp; omega
      clear hu hNr
      have i0 : (0 : Int) ≤ (j : Int) := Int.natCast_nonneg _
      have i1 : (j : Int) < (len : Int) := by omega
      go_wp2_with fail
      go_roundw
      case rel => exact ⟨j + 1, u + 1 + 1 + 1 + 1, by omega, by simp, by simp, by rw [Hu.out]; omega, hnx⟩
      case measure => simp [intOf]; omega
    · obtain rfl : j = len := by omega
      go_wp2
      go_ret
      exact ⟨by first | exact hu | (simp; omega) | (subst hu; rfl), hnx⟩
end Go.Proofs.Ythedlopfjlnogaa
namespace Go.Proofs.Ythedlopfjlnogaa
open Go.RowKit Go.Sort

def sAt (ss : List (P2 × P2)) (j : Nat) : P2 × P2 := ss[j]?.getD ((0, 0), (0, 0))
/-- A row of segments, its cells. -/
def SRow (W : World) (g : Nat) (ss : List (P2 × P2)) : Prop := ∀ j, j < ss.length → W.cell? ⟨g, j * 4, none⟩ = some (.int .i64 (sAt ss j).1.1) ∧ W.cell? ⟨g, j * 4 + 1, none⟩ = some (.int .i64 (sAt ss j).1.2) ∧ W.cell? ⟨g, j * 4 + 2, none⟩ = some (.int .i64 (sAt ss j).2.1) ∧ W.cell? ⟨g, j * 4 + 3, none⟩ = some (.int .i64 (sAt ss j).2.2)
theorem SRow.below {W W' : World} {g : Nat} {ss : List (P2 × P2)} (h : SRow W g ss) (k : Below W.heap.size W W') (hg : g < W.heap.size) : SRow W' g ss := fun j hj => by
  obtain ⟨c0, c1, c2, c3⟩ := h j hj
  exact ⟨(k.cell (p := ⟨g, j * 4, none⟩) hg).trans c0, (k.cell (p := ⟨g, j * 4 + 1, none⟩) hg).trans c1, (k.cell (p := ⟨g, j * 4 + 2, none⟩) hg).trans c2, (k.cell (p := ⟨g, j * 4 + 3, none⟩) hg).trans c3⟩
theorem SRow.only {W W' : World} {g r : Nat} {ss : List (P2 × P2)} (h : SRow W g ss) (O : Only r W W') (hne : g ≠ r) : SRow W' g ss := fun j hj => by
  obtain ⟨c0, c1, c2, c3⟩ := h j hj
  exact ⟨cellO O c0 hne, cellO O c1 hne, cellO O c2 hne, cellO O c3 hne⟩
def cellsS (ss : List (P2 × P2)) : List Value := ss.flatMap fun s => seg4 s.1 s.2
theorem cellsS_append (a b : List (P2 × P2)) : cellsS (a ++ b) = cellsS a ++ cellsS b := by simp [cellsS]
theorem cellsS_len (ss : List (P2 × P2)) : (cellsS ss).length = ss.length * 4 := by
  induction ss with
  | nil => rfl
  | cons s ss ih => have : cellsS (s :: ss) = seg4 s.1 s.2 ++ cellsS ss := by simp [cellsS]
                    rw [this, List.length_append, ih]; simp [seg4]; omega
theorem cellsS_at (ss : List (P2 × P2)) (j : Nat) (hj : j < ss.length) :
    (cellsS ss)[j * 4]? = some (.int .i64 (sAt ss j).1.1) ∧ (cellsS ss)[j * 4 + 1]? = some (.int .i64 (sAt ss j).1.2) ∧ (cellsS ss)[j * 4 + 2]? = some (.int .i64 (sAt ss j).2.1) ∧ (cellsS ss)[j * 4 + 3]? = some (.int .i64 (sAt ss j).2.2) := by
  induction ss generalizing j with
  | nil => simp at hj
  | cons s ss ih =>
    have e : cellsS (s :: ss) = .int .i64 s.1.1 :: .int .i64 s.1.2 :: .int .i64 s.2.1 :: .int .i64 s.2.2 :: cellsS ss := by simp [cellsS, seg4]
    cases j with
    | zero => rw [e]; exact ⟨rfl, rfl, rfl, rfl⟩
    | succ j =>
      have := ih j (by simpa using hj)
      have e1 : (j + 1) * 4 = j * 4 + 1 + 1 + 1 + 1 := by omega
      have e2 : (j + 1) * 4 + 1 = j * 4 + 1 + 1 + 1 + 1 + 1 := by omega
      have e3 : (j + 1) * 4 + 2 = j * 4 + 2 + 1 + 1 + 1 + 1 := by omega
      have e4 : (j + 1) * 4 + 3 = j * 4 + 3 + 1 + 1 + 1 + 1 := by omega
      rw [e, e2, e3, e4, e1]
      simpa [sAt] using this
/-- The edges of a loop. -/
def segsL (pts : List P2) : List (P2 × P2) := (List.range pts.length).map fun k => (ptAt pts k, ptAt pts (nxt pts k))
theorem segsL_len (pts : List P2) : (segsL pts).length = pts.length := by simp [segsL]
theorem segsL_at (pts : List P2) (k : Nat) (hk : k < pts.length) : sAt (segsL pts) k = (ptAt pts k, ptAt pts (nxt pts k)) := by simp [segsL, sAt, hk]
theorem segsL_cells (pts : List P2) : cellsS (segsL pts) = segCells pts pts.length := by
  have : ∀ n, cellsS ((List.range n).map fun k => (ptAt pts k, ptAt pts (nxt pts k))) = segCells pts n := by
    intro n
    induction n with
    | zero => rfl
    | succ n ih => rw [List.range_succ, List.map_append, cellsS_append, ih]; simp [segCells, cellsS]
  exact this _
/-- A slice of segments of our own memory, or none. -/
def AnsS (base top : Nat) (W : World) (v : Value) (ss : List (P2 × P2)) : Prop :=
  (ss = [] ∧ ∃ a c, v = .slice a 0 c) ∨ ∃ g c, v = .slice (some ⟨g, 0, none⟩) ss.length c ∧ base ≤ g ∧ g < top ∧ ss.length ≤ c ∧ Own W g (c * 4) 44 ∧ SRow W g ss
theorem AnsS.below {base top : Nat} {W W' : World} {v : Value} {ss : List (P2 × P2)} (h : AnsS base top W v ss) (J : Below W.heap.size W W') : AnsS base top W' v ss := by
  rcases h with h | ⟨g, c, e, hb, ht, hc, hO, hS⟩
  · exact .inl h
  · exact .inr ⟨g, c, e, hb, ht, hc, hO.below J, hS.below J hO.lt⟩
theorem AnsS.only {base top r : Nat} {W W' : World} {v : Value} {ss : List (P2 × P2)} (h : AnsS base top W v ss) (O : Only r W W') (hr : r < base ∨ top ≤ r) : AnsS base top W' v ss := by
  rcases h with h | ⟨g, c, e, hb, ht, hc, hO, hS⟩
  · exact .inl h
  · have hne : g ≠ r := by omega
    exact .inr ⟨g, c, e, hb, ht, hc, hO.only O hne, hS.only O hne⟩
theorem AnsS.of_owns {base n : Nat} {W : World} {v : Value} {ss : List (P2 × P2)} (h : W.ownsRow base 44 4 v n (cellsS ss)) (hn : ss.length = n) : AnsS base W.heap.size W v ss := by
  subst hn
  have h' := h
  rcases h.2 with ⟨h1, h2⟩ | ⟨g, cap, cur, e, hb, hg, h1, h2, hs, ht⟩
  · refine .inl ⟨List.eq_nil_of_length_eq_zero h2, none, 0, ?_⟩
    rw [h1]
  · refine .inr ⟨g, cap, e, hb, (Array.getElem?_eq_some_iff.1 hg).1, h1, ⟨cur, hg, hs⟩, fun j hj => ?_⟩
    subst e
    have hc := h'.cells (g := g) rfl
    have add : ∀ k : Nat, (⟨g, 0, none⟩ : Addr).add k = ⟨g, k, none⟩ := fun k => by unfold Addr.add; split <;> simp_all
    obtain ⟨c0, c1, c2, c3⟩ := cellsS_at ss j hj
    have d0 := hc _ _ c0
    have d1 := hc _ _ c1
    have d2 := hc _ _ c2
    have d3 := hc _ _ c3
    rw [add] at d0 d1 d2 d3
    exact ⟨d0, d1, d2, d3⟩
set_option maxHeartbeats 1000000 in
theorem eqSeg_same (x y u v : Int) (w : World) : Calls Try.prog 65 #[.agg #[.int .i64 x, .int .i64 y, .int .i64 u, .int .i64 v], .agg #[.int .i64 x, .int .i64 y, .int .i64 u, .int .i64 v]] w fun e w' => e = .returned (.bool true) ∧ Below w.heap.size w w' := by
  obtain ⟨W, hW, BW, T0, T1⟩ := boxes2 w (.cells #[.int .i64 x, .int .i64 y, .int .i64 u, .int .i64 v] 44) (.cells #[.int .i64 x, .int .i64 y, .int .i64 u, .int .i64 v] 44)
  obtain ⟨a0, a1, a2, a3⟩ := blk_4 T0
  obtain ⟨b0, b1, b2, b3⟩ := blk_4 T1
  go_enter Try.func65, Try.ntmps65
  go_upto_region 1 with fail
  rw [← hW]
  clear hW
  go_wp2_with fail
  refine (eqPt_same x y _).mono ?_
  rintro e w1 ⟨rfl, J1⟩
  clear a0 a1 a2 a3 b0 b1 b2 b3
  obtain ⟨a0, a1, a2, a3⟩ := blk_4 (keep J1 T0)
  obtain ⟨b0, b1, b2, b3⟩ := blk_4 (keep J1 T1)
  go_wp2_with fail
  refine (eqPt_same u v _).mono ?_
  rintro e w2 ⟨rfl, J2⟩
  go_wp2_with fail
  go_ret
  exact ⟨rfl, bw_trans (bw_trans BW J1) J2⟩
set_option maxRecDepth 100000 in
set_option maxHeartbeats 1000000 in
theorem eqSegs_same (base top base' top' : Nat) (va vb : Value) (ss : List (P2 × P2)) (w : World) (hA : AnsS base top w va ss) (hB : AnsS base' top' w vb ss) (hlen : ss.length ≤ 1048576) :
    Calls Try.prog 28 #[va, vb] w fun e w' => e = .returned (.bool true) ∧ Below w.heap.size w w' := by
  rcases hA with ⟨hnil, a, c, rfl⟩ | ⟨g, c, rfl, hg, _, hc, hO, hS⟩
  · rcases hB with ⟨_, b, d, rfl⟩ | ⟨g', d, rfl, _⟩
    · go_enter Try.func28, Try.ntmps28
      go_wp2_with fail
      go_loopw [5] (fun i wr => i = .int .i64 0 ∧ Below w.heap.size w wr) (fun i _ => 0)
      case atStart => exact ⟨rfl, bw_refl _⟩
      case round =>
        obtain ⟨rfl, hnx⟩ := hrel
        go_wp2_with fail
        go_ret
        exact ⟨rfl, hnx⟩
    · subst hnil
      go_enter Try.func28, Try.ntmps28
      go_wp2_with fail
      go_loopw [5] (fun i wr => i = .int .i64 0 ∧ Below w.heap.size w wr) (fun i _ => 0)
      case atStart => exact ⟨rfl, bw_refl _⟩
      case round =>
        obtain ⟨rfl, hnx⟩ := hrel
        go_wp2_with fail
        go_ret
        exact ⟨rfl, hnx⟩
  rcases hB with ⟨hnil, b, d, rfl⟩ | ⟨g', d, rfl, hg', _, hc', hO', hS'⟩
  · subst hnil
    go_enter Try.func28, Try.ntmps28
    go_wp2_with fail
    go_loopw [5] (fun i wr => i = .int .i64 0 ∧ Below w.heap.size w wr) (fun i _ => 0)
    case atStart => exact ⟨rfl, bw_refl _⟩
    case round =>
      obtain ⟨rfl, hnx⟩ := hrel
      go_wp2_with fail
      go_ret
      exact ⟨rfl, hnx⟩
  have gl := hO.lt
  have gl' := hO'.lt
  obtain ⟨len, hl⟩ : ∃ len, ss.length = len := ⟨_, rfl⟩
  have HL : Hid (ss.length = len) := hl
  rw [hl] at hc hc' hlen
  rw [hl]
  clear hl
  go_enter Try.func28, Try.ntmps28
  go_wp2_with fail
  go_loopw [5] (fun i wr => ∃ k : Nat, k ≤ len ∧ i = .int .i64 k ∧ Below w.heap.size w wr) (fun i _ => len - (intOf i).toNat)
  case atStart => exact ⟨0, Nat.zero_le _, rfl, bw_refl _⟩
  case round =>
    obtain ⟨k, hk, rfl, hnx⟩ := hrel
    by_cases hlt : k < len
    · obtain ⟨d0, d1, d2, d3⟩ := regrow4 ((hS.below hnx gl) k (by rw [HL.out]; exact hlt))
      obtain ⟨f0, f1, f2, f3⟩ := regrow4 ((hS'.below hnx gl') k (by rw [HL.out]; exact hlt))
      have i0 : (0 : Int) ≤ (k : Int) := Int.natCast_nonneg _
      have i1 : (k : Int) < (len : Int) := by omega
      go_wp2_with fail
      refine wp_region_quiet_below (by kernel_rfl) (by kernel_rfl) ?_
      repeat (first | go_big_quiet_step (first | (go_at_call 65; with_reducible exact Calls.regrown_of (eqSeg_same _ _ _ _ _))))
      refine wpQuiet_nil ?_
      intro _ hw'
      obtain ⟨⟨dq, osq⟩, hw''⟩ := hw'
      subst hw''
      have J := below_regrown wr dq osq
      generalize grow (redrawn wr dq) osq = w1 at J ⊢
      go_wp2_with fail
      go_roundw
      case rel => exact ⟨k + 1, by omega, by simp, bw_trans hnx J⟩
      case measure => simp [intOf]; omega
    · obtain rfl : k = len := by omega
      go_wp2
      go_ret
      exact ⟨rfl, hnx⟩
/-- What a marked row holds. -/
def NumS (W : World) (v : Value) (n : Nat) (k : Int) : Prop := (n = 0 ∧ ∃ a c, v = .slice a 0 c) ∨ ∃ g c, v = .slice (some ⟨g, 0, none⟩) n c ∧ g < W.heap.size ∧ Num W g (n * 4) k
theorem NumS.below {W W' : World} {v : Value} {n : Nat} {k : Int} (h : NumS W v n k) (J : Below W.heap.size W W') : NumS W' v n k := by
  rcases h with h | ⟨g, c, e, hg, hN⟩
  · exact .inl h
  · exact .inr ⟨g, c, e, Nat.lt_of_lt_of_le hg J.size, hN.below hg J⟩
set_option maxHeartbeats 1000000 in
theorem markSegs_ans (base top : Nat) (v : Value) (ss : List (P2 × P2)) (w : World) (h : AnsS base top w v ss) (hlen : ss.length ≤ 1048576) :
    Calls Try.prog 31 #[v, .int .i64 1] w fun e w' => e = .returned (.int .i64 (1 + 4 * ss.length)) ∧ NumS w' v ss.length 1 ∧ ∃ r, base ≤ r ∧ Only r w w' := by
  rcases h with ⟨hnil, a, c, rfl⟩ | ⟨g, c, rfl, hg, ht, hc, hO, hS⟩
  · subst hnil
    go_enter Try.func31, Try.ntmps31
    go_wp2_with fail
    go_loopw [1, 5] (fun kk i wr => i = .int .i64 0 ∧ kk = .int .i64 1 ∧ Below w.heap.size w wr) (fun _ i _ => 0)
    case atStart => exact ⟨rfl, rfl, bw_refl _⟩
    case round =>
      obtain ⟨rfl, rfl, hnx⟩ := hrel
      go_wp2_with fail
      go_ret
      exact ⟨by simp, .inl ⟨rfl, _, _, rfl⟩, base, Nat.le_refl _, Only.of_below hnx⟩
  · refine (markSegs_any g ss.length c (c * 4) 1 w hO (by omega) hlen (by omega) (by omega)).mono ?_
    rintro e w' ⟨rfl, hN, hO', P⟩
    exact ⟨rfl, .inr ⟨g, c, rfl, hO'.lt, hN⟩, g, hg, P⟩
set_option maxHeartbeats 1000000 in
theorem heldSegs_ans (v : Value) (n : Nat) (w : World) (h : NumS w v n 1) (hlen : n ≤ 1048576) :
    Calls Try.prog 32 #[v, .int .i64 1] w fun e w' => e = .returned (.int .i64 (1 + 4 * n)) ∧ Below w.heap.size w w' := by
  rcases h with ⟨rfl, a, c, rfl⟩ | ⟨g, c, rfl, hg, hN⟩
  · go_enter Try.func32, Try.ntmps32
    go_wp2_with fail
    go_loopw [1, 5] (fun kk i wr => i = .int .i64 0 ∧ kk = .int .i64 1 ∧ Below w.heap.size w wr) (fun _ i _ => 0)
    case atStart => exact ⟨rfl, rfl, bw_refl _⟩
    case round =>
      obtain ⟨rfl, rfl, hnx⟩ := hrel
      go_wp2_with fail
      go_ret
      exact ⟨by simp, hnx⟩
  · exact heldSegs_any g n c 1 w hN hg hlen (by omega) (by omega)
end Go.Proofs.Ythedlopfjlnogaa
namespace Go.Proofs.Ythedlopfjlnogaa
open Go.RowKit Go.Shelf
attribute [local go_sem] Oper.semAt_some

/-- A segment, as it is handed on. -/
def segE (s : P2 × P2) : Array Value := #[.agg #[.int .i64 s.1.1, .int .i64 s.1.2, .int .i64 s.2.1, .int .i64 s.2.2]]
/-- What a round keeps: all that lay below n₀, and every box of points or of a yield. -/
def KT (n₀ : Nat) (W W' : World) : Prop := Below n₀ W W' ∧ ∀ (k : Nat) (cs : Array Value) (t : TypeId), (t = 23 ∨ t = 85) → W.heap[k]? = some (Obj.cells cs t (0, 0)) → W'.heap[k]? = some (Obj.cells cs t (0, 0))
theorem KT.refl (n₀ : Nat) (W : World) : KT n₀ W W := ⟨Below.refl _ _, fun _ _ _ _ h => h⟩
theorem KT.trans {n₀ : Nat} {A B C : World} (h : KT n₀ A B) (k : KT n₀ B C) : KT n₀ A C := ⟨h.1.trans k.1, fun i cs t ht h0 => k.2 i cs t ht (h.2 i cs t ht h0)⟩
theorem KT_t {n₀ : Nat} : ∀ {A B C : World}, KT n₀ A B → KT n₀ B C → KT n₀ A C := fun h k => h.trans k
theorem KT_b {n₀ : Nat} {w : World} (hn : n₀ ≤ w.heap.size) : ∀ (W : World) (l : Nat) (o o' : Obj), w.heap.size ≤ l → W.heap[l]? = some o → o.isCells = false → o.isWalk = false → KT n₀ W (W.putObj l o') :=
  fun W l o o' hl ho h1 h2 => ⟨belowK_b hn W l o o' hl ho h1 h2, fun k cs t _ h => by
    refine (World.putObj_heap_other (fun e => ?_)).trans h
    subst e; rw [h] at ho; cases ho; cases h1⟩
theorem KT.of_below {n₀ : Nat} {W W' : World} (h : Below W.heap.size W W') (hn : n₀ ≤ W.heap.size) : KT n₀ W W' := ⟨h.mono hn, fun k _ _ _ h0 => (h.block k (Array.getElem?_eq_some_iff.1 h0).1).trans h0⟩
theorem KT.lies {n₀ b : Nat} {cs : Array Value} {t : TypeId} {W W' : World} (h : KT n₀ W W') (ht : t = 23 ∨ t = 85) (hL : Lies b cs t W) : Lies b cs t W' := h.2 b cs t ht hL
/-- A list of loops, all below n₀. -/
def RingN (n₀ : Nat) (W : World) : Option Addr → List RingT → Prop
  | p, [] => p = none
  | p, x :: xs => ∃ (b : Nat) (q : Option Addr) (t : TypeId), p = some ⟨b, 0, none⟩ ∧ b < n₀ ∧ Lies b #[.slice x.a x.len x.cap, .pointer q] t W ∧ x.len ≤ 1048576 ∧ Pts n₀ W x.a x.len x.pts ∧ RingN n₀ W q xs
theorem RingN.keep {n₀ : Nat} {W V : World} (h : Below n₀ W V) : ∀ {p : Option Addr} {xs : List RingT}, RingN n₀ W p xs → RingN n₀ V p xs
  | _, [], hl => hl
  | _, _ :: _, ⟨b, q, t, hp, hb, hL, hl, hP, hr⟩ => ⟨b, q, t, hp, hb, (h.block b hb).trans hL, hl, hP.below h, RingN.keep h hr⟩
theorem RingL.ringN {n₀ : Nat} {W : World} (hn : W.heap.size ≤ n₀) : ∀ {p : Option Addr} {xs : List RingT}, RingL n₀ W p xs → RingN n₀ W p xs
  | _, [], hl => hl
  | _, _ :: _, ⟨b, q, t, hp, hL, hl, hP, hr⟩ => ⟨b, q, t, hp, Nat.lt_of_lt_of_le hL.lt hn, hL, hl, hP, RingL.ringN hn hr⟩
theorem RingN.ringL {n₀ : Nat} {W : World} : ∀ {p : Option Addr} {xs : List RingT}, RingN n₀ W p xs → RingL n₀ W p xs
  | _, [], hl => hl
  | _, _ :: _, ⟨b, q, t, hp, _, hL, hl, hP, hr⟩ => ⟨b, q, t, hp, hL, hl, hP, RingN.ringL hr⟩
/-- A function that has ended some loops leaves: no call was deferred in any round. -/
theorem leaves_marks {fn : Func} {n : Nat} {P : Program} {tmps : Array Value} {R : Ending → World → Prop} (G : World → Prop) (B : Nat) (hG : ∀ V D o, B ≤ D → V.heap[D]? = some (.deferred (some [])) → G V → G (V.putObj D o)) (hres : ∀ V, G V → ∃ v, (results fn tmps).run P V = .ok v V ∧ R (.returned v) V) :
    ∀ (ds : List Nat) (V : World), ds.Nodup → (∀ D ∈ ds, B ≤ D ∧ V.heap[D]? = some (.deferred (some []))) → G V → LeavesInM Fence.wide n P fn tmps R (ds.map fun D => { target := .collected D, args := #[] }) .returning V
  | [], V, _, _, hg => hres V hg
  | D :: ds, V, hnd, hd, hg => by
    obtain ⟨hB, hD⟩ := hd D (by simp)
    refine ⟨by simp, .inl ⟨D, _, rfl, run_takeDeferred hD, ?_⟩⟩
    rw [List.nodup_cons] at hnd
    refine leaves_marks G B hG hres ds _ hnd.2 (fun E hE => ?_) (hG V D _ hB hD hg)
    obtain ⟨h1, h2⟩ := hd E (by simp [hE])
    exact ⟨h1, (World.putObj_heap_other (fun e => hnd.1 (by rw [← e]; exact hE))).trans h2⟩
theorem roundIn_any {m m' l : Nat} {P : Program} {f : FuncId} {tmps : Array Value} {assign body : Code} {w : World} {R : Ending → World → Prop} (h : RoundIn Fence.wide m P l f tmps assign body w R) (l' : Nat) : RoundIn (Fence.wide.inRound l') m' P l f tmps assign body w R :=
  ⟨h.1, fun c cs _ => h.2 c cs (room_wide _)⟩
theorem segsL_fin (pts : List P2) : ((List.finRange pts.length).map fun k => (ptAt pts k.1, ptAt pts (nxt pts k.1))) = segsL pts := fin_map' pts.length (fun k => (ptAt pts k, ptAt pts (nxt pts k)))
def edgR (rs : List RingT) : List (P2 × P2) := rs.flatMap fun x => segsL x.pts
set_option maxRecDepth 100000 in
set_option maxHeartbeats 4000000 in
theorem ringE_seq (n : Nat) (hn : 6 ≤ n) (B n₀ : Nat) (q : Option Addr) (rs : List RingT) (w : World) (hB : w.cell? ⟨B, 0, none⟩ = some (.pointer q)) (hn₀ : n₀ ≤ w.heap.size) (hR : RingN n₀ w q rs) :
    SeqO Fence.wide n Try.prog 85 #[.pointer (some ⟨B, 0, none⟩)] segE (KT n₀) (edgR rs) w := by
  intro l J W hW hJ hY h0
  have zBw : B < w.heap.size := World.block_lt_of_cell? _ _ hB
  have hBW := (hW.cell (p := ⟨B, 0, none⟩) zBw).trans hB
  have hRW := hR.keep (hW.mono hn₀)
  have zW := hW.size
  have zB : B < W.heap.size := by omega
  have h1 : 1 ≤ n := by omega
  refine callsIn_of_wp_marks Try.func85 rfl trivial ?_ rfl
  simp only [Try.ntmps85, List.size_toArray, List.length_cons, List.length_nil, Nat.reduceAdd, Nat.reduceSub, Array.replicate_succ, Array.replicate_zero, List.push_toArray, List.append_toArray, List.nil_append, List.cons_append]
  gi_wp2
  refine wpIn_loop (fun a V => ∃ (dn rest : List RingT) (p : Option Addr) (ds : List Nat) (u7 u8 u9 u10 u11 u12 u13 u14 u15 u16 u17 : Value), rs = dn ++ rest ∧ RingN n₀ V p rest ∧ J (edgR dn) V ∧ KT n₀ W V ∧ Lies W.heap.size #[.func (.yield l) #[] #[]] 85 V ∧ (∀ D ∈ ds, W.heap.size ≤ D ∧ V.heap[D]? = some (.deferred (some []))) ∧ ds.Nodup ∧
      a = { tmps := #[.func (.yield l) #[] #[], .pointer (some ⟨B, 0, none⟩), .pointer (some ⟨W.heap.size, 0, none⟩), .pointer p, undef, undef, .pointer q, u7, u8, u9, u10, u11, u12, u13, u14, u15, u16, u17, undef, undef, undef, undef, undef, undef], defers := ds.map fun D => { target := .collected D, args := #[] } })
    (fun a V => ringsLeft V (a.tmps.getD 3 undef)) ?start ?round
  case start =>
    refine ⟨[], rs, q, [], undef, undef, undef, undef, undef, undef, undef, undef, undef, undef, undef, rfl, hRW.keep ((Below.refl _ W).alloc (by omega) _), ?_, KT.of_below ((Below.refl _ W).alloc (Nat.le_refl _) _) (by omega), Lies.new W _ _, fun D hD => by simp at hD, by simp, rfl⟩
    exact hJ.alloc _ h0
  case round =>
    rintro a V ⟨dn, rest, p, ds, u7, u8, u9, u10, u11, u12, u13, u14, u15, u16, u17, hrs, hRV, hJV, hkt, LY, hds, hnd, rfl⟩
    cases rest with
    | nil =>
      obtain rfl : p = none := hRV
      gi_wp2
      rw [List.append_nil] at hrs
      subst hrs
      exact leaves_marks (fun V => J (edgR rs) V) W.heap.size (fun V D o hBD hD hj => hJ.putObj _ hj hBD hD rfl) (fun V hg => ⟨_, results_none rfl _ _ _, ⟨_, rfl⟩, hg⟩) ds V hnd hds hJV
    | cons y ys =>
      obtain ⟨b, q', t, rfl, hb, hL, hyl, hP, hr⟩ := hRV
      obtain ⟨c0, c1, _, _⟩ := lies2 hL
      have zV := hkt.1.size
      have hdsV : ∀ D ∈ ds, D < V.heap.size := fun D hD => (Array.getElem?_eq_some_iff.1 (hds D hD).2).1
      gi_wp2_with (refine ⟨trivial, ?_⟩; gi_at_call 60; refine (edges_in (n - 1) _ _ _ _).mono ?_; rintro e w' ⟨rfl, rfl⟩)
      have BL : Lies V.heap.size #[.slice y.a y.len y.cap] 23 (V.alloc (.cells #[.slice y.a y.len y.cap] 23)) := Lies.new V _ _
      have hBV : Below V.heap.size V (V.alloc (.cells #[.slice y.a y.len y.cap] 23)) := (by repeat (first | exact bw_refl _ | assumption | apply bw_drewN | apply bw_drew | apply bw_alloc | refine bw_set ?_ (by simp) _))
      have hJ2 : J (edgR dn) (V.alloc (.cells #[.slice y.a y.len y.cap] 23)) := hJ.alloc _ hJV
      have LY2 := LY.below hBV
      have hds2 : ∀ D ∈ ds, W.heap.size ≤ D ∧ (V.alloc (.cells #[.slice y.a y.len y.cap] 23)).heap[D]? = some (.deferred (some [])) := fun D hD => ⟨(hds D hD).1, (hBV.block D (hdsV D hD)).trans (hds D hD).2⟩
      have hP2 : Pts n₀ (V.alloc (.cells #[.slice y.a y.len y.cap] 23)) y.a y.len y.pts := hP.below (hBV.mono (by omega))
      have hK2 : KT n₀ V (V.alloc (.cells #[.slice y.a y.len y.cap] 23)) := KT.of_below hBV (by omega)
      have hsz : (V.alloc (.cells #[.slice y.a y.len y.cap] 23)).heap.size = V.heap.size + 1 := by simp
      obtain ⟨V2, hV2⟩ : ∃ V2, V.alloc (.cells #[.slice y.a y.len y.cap] 23) = V2 := ⟨_, rfl⟩
      rw [hV2] at BL hBV hJ2 LY2 hds2 hP2 hK2 hsz ⊢
      clear hV2
      have hst := edges_stops (n - 1) (by omega) V.heap.size n₀ y.a y.len y.cap y.pts V2 (by omega) (by omega) hyl BL.c1 hP2
      refine wpIn_rangeFunc_ownH rfl h1 (gf := 86) (lb := #[.pointer (some ⟨V.heap.size, 0, none⟩)]) rfl trivial (enters_of Try.func86 (by kernel_rfl) rfl)
        hst KB_t (KB_b (by omega) (by omega)) (Below.refl _ _) (fun _ => rfl)
        (fun pre V3 => (J (edgR dn ++ pre.map fun k => (ptAt y.pts k.1, ptAt y.pts (nxt y.pts k.1))) V3 ∧ Lies W.heap.size #[.func (.yield l) #[] #[]] 85 V3 ∧ Lies V.heap.size #[.slice y.a y.len y.cap] 23 V3 ∧ ∀ D ∈ ds, W.heap.size ≤ D ∧ V3.heap[D]? = some (.deferred (some []))) ∧ KT n₀ V V3)
        (fun _ _ _ => False)
        (fun s X Y row hs hg hr => ⟨⟨hJ _ X Y row hs.1.1 hg (fun r e => ⟨by have := (hr r e).1; omega, (hr r e).2⟩), lies_own (β := Unit) _ _ _ () X Y row hs.1.2.1 hg (fun r e => (hr r e).2), lies_own (β := Unit) _ _ _ () X Y row hs.1.2.2.1 hg (fun r e => (hr r e).2), fun D hD => ⟨(hs.1.2.2.2 D hD).1, (hg.block D (Array.getElem?_eq_some_iff.1 (hs.1.2.2.2 D hD).2).1 (fun e => by have := (hr D e.symm).1; have := hdsV D hD; omega)).trans (hs.1.2.2.2 D hD).2⟩⟩, ⟨ownFrom_below (β := Unit) (n₀ := n₀) (B := V2.heap.size) (w₀ := V) (by omega) (by omega) () X Y row hs.2.1 hg hr, fun k cs t ht h => (hg.block k (Array.getElem?_eq_some_iff.1 (hs.2.2 k cs t ht h)).1 (fun e => by obtain ⟨_, o, ho, hc⟩ := hr k e.symm; rw [hs.2.2 k cs t ht h] at ho; cases ho; cases hc)).trans (hs.2.2 k cs t ht h)⟩⟩)
        (fun c => ownFrom_pure _ _)
        ⟨⟨by simpa using hJ2, LY2, BL, hds2⟩, hK2⟩
        (fun x a' V3 => ∃ Bx, Lies Bx #[.int .i64 (ptAt y.pts x.1).1, .int .i64 (ptAt y.pts x.1).2, .int .i64 (ptAt y.pts (nxt y.pts x.1)).1, .int .i64 (ptAt y.pts (nxt y.pts x.1)).2] 44 V3 ∧ a' = { tmps := #[.func (.yield l) #[] #[], .pointer (some ⟨B, 0, none⟩), .pointer (some ⟨W.heap.size, 0, none⟩), .pointer (some ⟨b, 0, none⟩), undef, .pointer (some ⟨Bx, 0, none⟩), .pointer q, .pointer (some ⟨b, 0, none⟩), .bool true, u9, u10, u11, u12, .pointer (some ⟨b, 0, none⟩), .pointer (some ⟨b, 0, none⟩), .pointer (some ⟨b, 0, none⟩), .slice y.a y.len y.cap, .func (.func 86) #[] #[.pointer (some ⟨V.heap.size, 0, none⟩)], .int .i64 (x.1 : Int), .agg #[.int .i64 (ptAt y.pts x.1).1, .int .i64 (ptAt y.pts x.1).2, .int .i64 (ptAt y.pts (nxt y.pts x.1)).1, .int .i64 (ptAt y.pts (nxt y.pts x.1)).2], undef, undef, undef, undef], defers := [] })
        (fun x a' _ X Y row hs hg hr => by obtain ⟨Bx, e2, e3⟩ := hs; exact ⟨Bx, lies_own (β := Unit) Bx _ _ () X Y row e2 hg (fun r e => (hr r e).2), e3⟩)
        ?assign ?body ?done ?stop
      case assign =>
        rintro l' pre x V3 K ⟨⟨hj, L1, L2, hd⟩, hk3⟩ hK
        unfold encE
        have zV3 := hk3.1.size
        have hB3 : Below V3.heap.size V3 (V3.alloc (.cells #[.int .i64 (ptAt y.pts x.1).1, .int .i64 (ptAt y.pts x.1).2, .int .i64 (ptAt y.pts (nxt y.pts x.1)).1, .int .i64 (ptAt y.pts (nxt y.pts x.1)).2] 44)) := (by repeat (first | exact bw_refl _ | assumption | apply bw_drewN | apply bw_drew | apply bw_alloc | refine bw_set ?_ (by simp) _))
        gi_wp2
        exact hK _ _ ((KeepsOthers.alloc _ _).from _) (KB.of_below hB3 (by omega) L2.lt) ⟨⟨hJ.alloc _ hj, L1.below hB3, L2.below hB3, fun D hD => ⟨(hd D hD).1, (hB3.block D (Array.getElem?_eq_some_iff.1 (hd D hD).2).1).trans (hd D hD).2⟩⟩, hk3.trans (KT.of_below hB3 (by omega))⟩ ⟨V3.heap.size, Lies.new V3 _ _, rfl⟩
      case body =>
        rintro l' pre x a' V3 hl2 ⟨r, hr'⟩ ⟨⟨hj, L1, L2, hd⟩, hk3⟩ ⟨Bx, bX, rfl⟩ hlt
        obtain ⟨k, hkk⟩ := x
        dsimp only at *
        have cY := L1.c1
        obtain ⟨cx0, cx1, cx2, cx3⟩ := bX.c4
        have hlen : (edgR dn ++ pre.map fun k => (ptAt y.pts k.1, ptAt y.pts (nxt y.pts k.1))).length < (edgR rs).length := by
          rw [hrs]; simp only [edgR, List.flatMap_append, List.flatMap_cons, List.length_append, List.length_map, segsL_len]; omega
        obtain ⟨fn, tmps, assign, body, hy, hRd⟩ := hY _ (ptAt y.pts k, ptAt y.pts (nxt y.pts k)) V3 hj hlen
        dsimp only [segE] at hy
        have hR2 := fun m' => roundIn_any (m' := m') hRd l'
        clear hRd
        gi_wp2_with (refine ⟨fun _ => by omega, ?_⟩; refine (hR2 _).mono ?_; rintro e V4 ⟨rfl, hj4, hk4, hkf4⟩)
        have L2' := hk4.lies (.inl rfl) L2
        refine ⟨keeps_far hkf4 (by omega), ⟨hk4.1, L2'.trans L2.symm⟩, ⟨?_, hk4.lies (.inr rfl) L1, L2', fun D hD => ⟨(hd D hD).1, hkf4.same D _ (hd D hD).1 (hd D hD).2 rfl⟩⟩, hk3.trans hk4⟩
        rw [List.map_append, ← List.append_assoc]; exact hj4
      case done =>
        rintro D zs V3 hD rfl ⟨⟨hj, L1, L2, hd⟩, hk3⟩ hKD
        have hj' : J (edgR (dn ++ [y])) V3 := by
          rw [segsL_fin] at hj; simpa [edgR] using hj
        clear hj
        obtain ⟨c0', c1', _, _⟩ := lies2 (show Lies b #[.slice y.a y.len y.cap, .pointer q'] t V3 from (hk3.1.block b hb).trans hL)
        gi_wp2
        have hRn := hr.keep hk3.1
        refine ⟨⟨dn ++ [y], ys, q', D :: ds, _, _, _, _, _, _, _, _, _, _, _, by simp [hrs], hRn, hj', hkt.trans hk3, L1, ?_, ?_, rfl⟩, ?_⟩
        · intro E hE
          rcases List.mem_cons.1 hE with rfl | hE
          · exact ⟨by omega, hKD⟩
          · exact hd E hE
        · rw [List.nodup_cons]
          exact ⟨fun h => by have := hdsV D h; omega, hnd⟩
        · show ringsLeft V3 (.pointer q') < ringsLeft V (.pointer (some ⟨b, 0, none⟩))
          rw [ringsLeft_eq hRn.ringL, ringsLeft_eq (xs := y :: ys) ⟨b, q', t, rfl, hL, hyl, hP, hr.ringL⟩]; simp
      case stop =>
        rintro D c pre V3 hD hpre h hK
        exact h.elim
set_option maxHeartbeats 1000000 in
theorem ringEdges_in (n : Nat) (q : Option Addr) (w : World) :
    CallsIn Fence.wide n Try.prog 55 #[.pointer q] w fun e w' => e = .returned (.func (.func 85) #[] #[.pointer (some ⟨w.heap.size, 0, none⟩)]) ∧ w' = w.alloc (.cells #[.pointer q] 80) := by
  refine callsIn_of_wp Try.func55 rfl trivial ?_ rfl
  simp only [Try.ntmps55, List.size_toArray, List.length_cons, List.length_nil, Nat.reduceAdd, Nat.reduceSub, Array.replicate_succ, Array.replicate_zero, List.push_toArray, List.append_toArray, List.nil_append, List.cons_append]
  gi_wp2
  go_ret
  exact ⟨rfl, rfl⟩
end Go.Proofs.Ythedlopfjlnogaa
namespace Go.Proofs.Ythedlopfjlnogaa
open Go.RowKit Go.Shelf Go.Sort
attribute [local go_sem] Oper.semAt_some

/-- The cells of the edges that have come. -/
def segF (pts : List P2) (pre : List (Fin pts.length)) : List Value := pre.flatMap fun k => seg4 (ptAt pts k.1) (ptAt pts (nxt pts k.1))
theorem segF_snoc (pts : List P2) (pre : List (Fin pts.length)) (k : Fin pts.length) : segF pts (pre ++ [k]) = segF pts pre ++ seg4 (ptAt pts k.1) (ptAt pts (nxt pts k.1)) := by simp [segF]
theorem segR (pts : List P2) (n : Nat) : ((List.range n).flatMap fun k => seg4 (ptAt pts k) (ptAt pts (nxt pts k))) = segCells pts n := by
  induction n with
  | zero => rfl
  | succ n ih => rw [List.range_succ, List.flatMap_append, ih]; simp [segCells]
theorem segF_all (pts : List P2) : segF pts (List.finRange pts.length) = segCells pts pts.length := by
  rw [← segR]
  have : List.range pts.length = (List.finRange pts.length).map fun k => k.1 := by
    apply List.ext_getElem
    · simp
    · intro i h1 h2; simp
  rw [this, List.flatMap_map]; rfl
theorem own_base {W : World} {base base' : Nat} {e : TypeId} {size n : Nat} {v : Value} {xs : List Value} (h : W.ownsRow base e size v n xs) (hb : base' ≤ base) : W.ownsRow base' e size v n xs :=
  ⟨h.1, h.2.imp id fun ⟨g, c, cur, e1, h1, r⟩ => ⟨g, c, cur, e1, Nat.le_trans hb h1, r⟩⟩
/-- What LoopEdges answers. -/
def EdgesAns (base : Nat) (pts : List P2) (len : Nat) (e : Ending) (W' : World) : Prop :=
  (okV pts = false ∧ e = .returned (.slice none 0 0)) ∨ (okV pts = true ∧ ∃ vv, e = .returned vv ∧ W'.ownsRow base 44 4 vv len (segCells pts len))
/-- What the specification's answers. -/
def SEdgesAns (base : Nat) (pts : List P2) (len : Nat) (e : Ending) (W' : World) : Prop :=
  ∃ vv, e = .returned vv ∧ W'.ownsRow base 44 4 vv (if okV pts then len else 0) (segCells pts (if okV pts then len else 0))
set_option maxRecDepth 100000 in
set_option maxHeartbeats 4000000 in
theorem loopEdges_in (n : Nat) (hn : 10 ≤ n) (a : Option Addr) (len cap : Nat) (pts : List P2) (hlen : len ≤ 1048576) (w : World) (hP : Pts w.heap.size w a len pts) :
    CallsIn Fence.wide n Try.prog 24 #[.slice a len cap] w fun e W' => EdgesAns w.heap.size pts len e W' ∧ Below w.heap.size w W' := by
  obtain ⟨i0, hi0, hz0, hz1, hz2⟩ := info_parts Try.infoSeg
  have h1 : 1 ≤ n := by omega
  have hl := hP.1
  have hmx : Try.prog.follows .mixedOrders = true := by kernel_rfl
  have hcall := ok_any a len cap pts hlen w hP
  cases hok : okV pts
  · rw [hok] at hcall
    refine callsIn_wide.2 ?_
    clear hP hl
    go_enter Try.func24, Try.ntmps24
    go_wp2_with (go_at_call 47; refine hcall.mono ?_; rintro e v ⟨rfl, J0⟩)
    go_ret
    exact ⟨.inl ⟨hok, rfl⟩, J0⟩
  rw [hok] at hcall
  have h8 := ((okV_iff pts).1 hok).hi
  refine callsIn_of_wp_marks Try.func24 rfl trivial ?_ rfl
  simp only [Try.ntmps24, List.size_toArray, List.length_cons, List.length_nil, Nat.reduceAdd, Nat.reduceSub, Array.replicate_succ, Array.replicate_zero, List.push_toArray, List.append_toArray, List.nil_append, List.cons_append]
  have z0' : Hid (∀ v, Below w.heap.size w v → w.heap.size ≤ v.heap.size) := fun v h => h.size
  gi_wp2_with (first | (refine ⟨trivial, ?_⟩; gi_at_call 47; refine (callsIn_wide.2 hcall).mono ?_; rintro e v ⟨rfl, J0⟩) | (gi_at_make; refine wpListIn_make_own _ rfl _ _ 40 rfl w.heap.size 44 i0 _ 4 Try.underlying40 hi0 hz0 hz1 .i64 .i64 _ len rfl rfl rfl (by rw [hz2]; omega) (by simp [maxLen]; omega) (z0'.out _ J0) ?_; intro v1 hown hgr) | (refine ⟨trivial, ?_⟩; gi_at_call 60; refine (edges_in (n - 1) _ _ _ _).mono ?_; rintro e w' ⟨rfl, rfl⟩))
  have z0 := J0.size
  have J1 : Below w.heap.size w v1 := J0.grown hgr z0 (fun k e => by cases e)
  have z1 := J1.size
  have hrow := (hown.alloc (.cells #[.slice (some ⟨v.heap.size, 0, none⟩) 0 len] 40)).alloc (.cells #[.slice a len cap] 23)
  have L0 := (Lies.new' v1 (v1.heap.size) (by simp) #[.slice (some ⟨v.heap.size, 0, none⟩) 0 len] 40).alloc (.cells #[.slice a len cap] 23)
  have L1 := Lies.new' (v1.alloc (.cells #[.slice (some ⟨v.heap.size, 0, none⟩) 0 len] 40)) (v1.heap.size + 1) (by simp) #[.slice a len cap] 23
  have hB0 : Below w.heap.size w ((v1.alloc (.cells #[.slice (some ⟨v.heap.size, 0, none⟩) 0 len] 40)).alloc (.cells #[.slice a len cap] 23)) := bw_alloc (bw_alloc J1 _) _
  have hsz : (((v1.alloc (.cells #[.slice (some ⟨v.heap.size, 0, none⟩) 0 len] 40)).alloc (.cells #[.slice a len cap] 23))).heap.size = v1.heap.size + 2 := by simp
  obtain ⟨W0, hW0⟩ : ∃ W0, ((v1.alloc (.cells #[.slice (some ⟨v.heap.size, 0, none⟩) 0 len] 40)).alloc (.cells #[.slice a len cap] 23)) = W0 := ⟨_, rfl⟩
  rw [hW0] at hrow L0 L1 hB0 hsz ⊢
  clear hW0 hown hgr
  have hst := edges_stops (n - 1) (by omega) (v1.heap.size + 1) w.heap.size a len cap pts W0 (by omega) (by omega) hlen L1.c1 (hP.below hB0)
  refine wpIn_rangeFunc_ownH rfl h1 (gf := 86) (lb := #[.pointer (some ⟨v1.heap.size + 1, 0, none⟩)]) rfl trivial (enters_of Try.func86 (by kernel_rfl) rfl)
    hst KB_t (KB_b (by omega) (by omega)) (Below.refl _ _) (fun _ => rfl)
    (fun pre W => ((∃ vv, Boxed W v1.heap.size 40 vv ∧ W.ownsRow w.heap.size 44 4 vv pre.length (segF pts pre) ∧ True) ∧ Lies (v1.heap.size + 1) #[.slice a len cap] 23 W) ∧ Below w.heap.size w W)
    (fun _ _ _ => False)
    (OwnFrom.and (OwnFrom.and (Own.from (holdsRow_own w.heap.size v1.heap.size 40 44 4 (fun pre => pre.length) (fun pre => segF pts pre) (fun _ _ => True)) _) (lies_from _ _ _ _)) (ownFrom_below (Nat.le_refl _) (by omega)))
    (fun c => ownFrom_pure _ _)
    ⟨⟨⟨_, L0, hrow, trivial⟩, L1⟩, hB0⟩
    (fun x a' W => ∃ Bx, v1.heap.size + 1 < Bx ∧ Lies Bx #[.int .i64 (ptAt pts x.1).1, .int .i64 (ptAt pts x.1).2, .int .i64 (ptAt pts (nxt pts x.1)).1, .int .i64 (ptAt pts (nxt pts x.1)).2] 44 W ∧ a' = { tmps := #[.slice a len cap, undef, .slice none 0 0, .pointer (some ⟨v1.heap.size, 0, none⟩), undef, .pointer (some ⟨Bx, 0, none⟩), .slice a len cap, .bool true, .bool false, .slice a len cap, .int .i64 (len : Int), .slice (some ⟨v.heap.size, 0, none⟩) 0 len, .slice a len cap, .func (.func 86) #[] #[.pointer (some ⟨v1.heap.size + 1, 0, none⟩)], .int .i64 (x.1 : Int), .agg #[.int .i64 (ptAt pts x.1).1, .int .i64 (ptAt pts x.1).2, .int .i64 (ptAt pts (nxt pts x.1)).1, .int .i64 (ptAt pts (nxt pts x.1)).2], undef, undef, undef, undef, undef], defers := [] })
    (fun x a' _ X Y row hs hg hr => by obtain ⟨Bx, e1, e2, e3⟩ := hs; exact ⟨Bx, e1, lies_own (β := Unit) Bx _ _ () X Y row e2 hg (fun r e => (hr r e).2), e3⟩)
    ?assign ?body ?done ?stop
  case assign =>
    rintro l pre x W K ⟨⟨⟨vv, M0, hr0, _⟩, M1⟩, hB1⟩ hK
    unfold encE
    gi_wp2
    exact hK _ _ ((KeepsOthers.alloc _ _).from _) ((KB.refl _ _ W).alloc hB1.size M1.lt _) ⟨⟨⟨vv, M0.alloc _, hr0.alloc _, trivial⟩, M1.alloc _⟩, hB1.alloc hB1.size _⟩ ⟨W.heap.size, M1.lt, Lies.new W _ _, rfl⟩
  case body =>
    rintro l pre x a' W hl2 ⟨r, hr⟩ ⟨⟨⟨vv, M0, hr0, _⟩, M1⟩, hB1⟩ ⟨Bx, hBx, bX, rfl⟩ hlt
    obtain ⟨k, hk⟩ := x
    dsimp only at *
    have c0 := M0.cell
    obtain ⟨cx0, cx1, cx2, cx3⟩ := bX.c4
    have h1' : 1 ≤ n - 1 - 1 := by omega
    have hzW := hB1.size
    gi_wp2_with (gi_at_builtin; refine wpListIn_append_own _ rfl _ _ 40 rfl w.heap.size 44 i0 _ 4 32 Try.underlying40 hi0 hz0 hz1 hz2 rfl (by decide) _ _ _ rfl (hr0.alloc _) ⟨W.heap.size, 0, none⟩ 1 1 (seg4 (ptAt pts k) (ptAt pts (nxt pts k))) rfl rfl (World.news_of_block (cs := #[.int .i64 (ptAt pts k).1, .int .i64 (ptAt pts k).2, .int .i64 (ptAt pts (nxt pts k)).1, .int .i64 (ptAt pts (nxt pts k)).2]) (t := 44) (fr := (0, 0)) (heap_alloc_new W _)) (by simp [seg4, Value.oneCell']) (by simp [maxLen]; omega) (by omega) (by simp; omega) ?_; intro v' w1 hown' hgrow _; obtain ⟨g', cap', rfl⟩ := ownsRow_succ hown'; obtain ⟨hv1, hv2, hr2, hk2, hb2⟩ := M0.appended (by decide) hr0 hB1.size (by omega) hown' hgrow; have hc1 := hv1.cell; have hf1 := hv1.frozen)
    have M1a : Boxed w1 (v1.heap.size + 1) 23 (.slice a len cap) := (Boxed.alloc M1 _).kept hgrow (Boxed.not_row M1 (by decide) hr0)
    have M1' : Lies (v1.heap.size + 1) #[.slice a len cap] 23 (w1.setCell ⟨v1.heap.size, 0, none⟩ (.slice (some ⟨g', 0, none⟩) (pre.length + 1) cap')) := Boxed.other M1a (by omega) _
    exact ⟨hk2.from _, ⟨hb2, M1'.trans M1.symm⟩, ⟨⟨_, hv2, by rw [segF_snoc, List.length_append, List.length_singleton]; exact hr2, trivial⟩, M1'⟩, hB1.trans hb2⟩
  case done =>
    rintro D zs W hD hzs ⟨⟨⟨vv, M0, hr0, _⟩, M1⟩, hB1⟩ hK
    have hr1 : W.ownsRow w.heap.size 44 4 vv len (segCells pts len) := by
      rw [hzs, segF_all, List.length_finRange, hl] at hr0; exact hr0
    clear hzs hr0
    have cR := M0.cell
    gi_wp2
    refine ⟨by simp, .inl ⟨_, _, rfl, run_takeDeferred hK, ?_⟩⟩
    exact ⟨vv, by simp [results, Try.results24, go_sem], .inr ⟨hok, vv, rfl, ownsRow_putObj hr1 _ hK rfl⟩, hB1.trans (belowK_b (w := w) (Nat.le_refl _) _ D _ _ (by omega) hK rfl rfl)⟩
  case stop =>
    rintro D c pre W hD hpre h hK
    exact h.elim
/-- LoopEdges. -/
theorem loopEdges_any (a : Option Addr) (len cap : Nat) (pts : List P2) (hlen : len ≤ 1048576) (w : World) (hP : Pts w.heap.size w a len pts) :
    Calls Try.prog 24 #[.slice a len cap] w fun e W' => EdgesAns w.heap.size pts len e W' ∧ Below w.heap.size w W' :=
  callsIn_wide.1 (loopEdges_in 10 (Nat.le_refl _) a len cap pts hlen w hP)
theorem sLoopEdges_any (a : Option Addr) (len cap : Nat) (pts : List P2) (hlen : len ≤ 1048576) (w : World) (hP : Pts w.heap.size w a len pts) :
    Calls Try.prog 34 #[.slice a len cap] w fun e W' => SEdgesAns w.heap.size pts len e W' ∧ Below w.heap.size w W' := by
  have hcall := sOk_any a len cap pts hlen w hP
  cases hok : okV pts
  · rw [hok] at hcall
    go_enter Try.func34, Try.ntmps34
    go_wp2_with (go_at_call 43; refine hcall.mono ?_; rintro e v ⟨rfl, J0⟩)
    go_ret
    exact ⟨⟨_, rfl, by rw [hok]; exact World.ownsRow_made v #[] 0 J0.size (by simp [maxLen]) rfl⟩, bw_alloc J0 _⟩
  · rw [hok] at hcall
    have h3 := ((okV_iff pts).1 hok).lo
    obtain ⟨hl, hP2⟩ := hP
    rcases hP2 with h0 | ⟨b, off, rfl, hb, hc⟩
    · omega
    go_enter Try.func34, Try.ntmps34
    go_wp2_with (go_at_call 43; refine hcall.mono ?_; rintro e v ⟨rfl, J0⟩)
    refine (sEdges_ok b off len cap pts v hl (by omega) hlen (by have := J0.size; omega) (fun j hj => ⟨(J0.cell (p := ⟨b, off + j * 2, none⟩) hb).trans (hc j hj).1, (J0.cell (p := ⟨b, off + j * 2 + 1, none⟩) hb).trans (hc j hj).2⟩)).mono ?_
    rintro e w1 ⟨vv, rfl, hown, J1⟩
    go_wp2_with fail
    go_ret
    exact ⟨⟨vv, rfl, by rw [hok]; exact own_base hown J0.size⟩, bw_trans J0 J1⟩
end Go.Proofs.Ythedlopfjlnogaa
namespace Go.Proofs.Ythedlopfjlnogaa
open Go.RowKit Go.Shelf Go.Sort
attribute [local go_sem] Oper.semAt_some

set_option maxRecDepth 100000 in
set_option maxHeartbeats 4000000 in
theorem appendSeq_in (n : Nat) (hn : 10 ≤ n) (B : Nat) (q : Option Addr) (rs : List RingT) (w : World) (hB : w.cell? ⟨B, 0, none⟩ = some (.pointer q)) (hR : RingN w.heap.size w q rs) (hes : (edgR rs).length ≤ 1000) :
    CallsIn Fence.wide n Try.prog 84 #[.slice none 0 0, .func (.func 85) #[] #[.pointer (some ⟨B, 0, none⟩)]] w fun e W' => ∃ v, e = .returned v ∧ W'.ownsRow w.heap.size 44 4 v (edgR rs).length (cellsS (edgR rs)) ∧ Below w.heap.size w W' := by
  obtain ⟨i0, hi0, hz0, hz1, hz2⟩ := info_parts Try.infoSeg
  have h1 : 1 ≤ n := by omega
  have hmx : Try.prog.follows .mixedOrders = true := by kernel_rfl
  have hseq := ringE_seq (n - 1) (by omega) B w.heap.size q rs w hB (Nat.le_refl _) hR
  refine callsIn_of_wp_marks Try.func84 rfl trivial ?_ rfl
  simp only [Try.ntmps84, List.size_toArray, List.length_cons, List.length_nil, Nat.reduceAdd, Nat.reduceSub, Array.replicate_succ, Array.replicate_zero, List.push_toArray, List.append_toArray, List.nil_append, List.cons_append]
  gi_wp2
  have M : Boxed (w.alloc (.cells #[.slice none 0 0] 40)) w.heap.size 40 (.slice none 0 0) := Lies.new w _ _
  have hB0 : Below w.heap.size w (w.alloc (.cells #[.slice none 0 0] 40)) := (by repeat (first | exact bw_refl _ | assumption | apply bw_drewN | apply bw_drew | apply bw_alloc | refine bw_set ?_ (by simp) _))
  have hsz : (w.alloc (.cells #[.slice none 0 0] 40)).heap.size = w.heap.size + 1 := by simp
  obtain ⟨W0, hW0⟩ : ∃ W0, w.alloc (.cells #[.slice none 0 0] 40) = W0 := ⟨_, rfl⟩
  rw [hW0] at M hB0 hsz ⊢
  clear hW0
  refine wpIn_rangeO rfl h1 (gf := 85) (lb := #[.pointer (some ⟨B, 0, none⟩)]) rfl trivial (enters_of Try.func85 (by kernel_rfl) rfl)
    hseq KT_t (KT_b (by omega)) hB0 (fun _ => rfl)
    (fun pre W => ((∃ vv, Boxed W w.heap.size 40 vv ∧ W.ownsRow w.heap.size 44 4 vv pre.length (cellsS pre) ∧ True)) ∧ Below w.heap.size w W)
    (OwnFrom.and (Own.from (holdsRow_own w.heap.size w.heap.size 40 44 4 (fun pre => pre.length) (fun pre => cellsS pre) (fun _ _ => True)) _) (ownFrom_below (Nat.le_refl _) (by omega)))
    ⟨⟨_, M, ⟨rfl, .inl ⟨rfl, rfl⟩⟩, trivial⟩, hB0⟩
    (fun x a' W => ∃ Bx, Lies Bx #[.int .i64 x.1.1, .int .i64 x.1.2, .int .i64 x.2.1, .int .i64 x.2.2] 44 W ∧ a' = { tmps := #[.slice none 0 0, .func (.func 85) #[] #[.pointer (some ⟨B, 0, none⟩)], .pointer (some ⟨w.heap.size, 0, none⟩), undef, .slice none 0 0, .pointer (some ⟨Bx, 0, none⟩), .func (.func 85) #[] #[.pointer (some ⟨B, 0, none⟩)], .agg #[.int .i64 x.1.1, .int .i64 x.1.2, .int .i64 x.2.1, .int .i64 x.2.2], undef, undef, undef, undef, undef], defers := [] })
    (fun x a' _ X Y row hs hg hr => by obtain ⟨Bx, e2, e3⟩ := hs; exact ⟨Bx, lies_own (β := Unit) Bx _ _ () X Y row e2 hg (fun r e => (hr r e).2), e3⟩)
    ?assign ?body ?done
  case assign =>
    rintro l pre x W K ⟨⟨vv, M0, hr0, _⟩, hB1⟩ hK
    unfold segE
    have hB3 : Below W.heap.size W (W.alloc (.cells #[.int .i64 x.1.1, .int .i64 x.1.2, .int .i64 x.2.1, .int .i64 x.2.2] 44)) := (by repeat (first | exact bw_refl _ | assumption | apply bw_drewN | apply bw_drew | apply bw_alloc | refine bw_set ?_ (by simp) _))
    gi_wp2
    exact hK _ _ ((KeepsOthers.alloc _ _).from _) (KT.of_below hB3 hB1.size) ⟨⟨vv, M0.alloc _, hr0.alloc _, trivial⟩, hB1.alloc hB1.size _⟩ ⟨W.heap.size, Lies.new W _ _, rfl⟩
  case body =>
    rintro l pre x a' W hl2 ⟨⟨vv, M0, hr0, _⟩, hB1⟩ ⟨Bx, bX, rfl⟩ hlt
    have c0 := M0.cell
    obtain ⟨cx0, cx1, cx2, cx3⟩ := bX.c4
    have h1' : 1 ≤ n - 1 - 1 := by omega
    have hzW := hB1.size
    gi_wp2_with (gi_at_builtin; refine wpListIn_append_own _ rfl _ _ 40 rfl w.heap.size 44 i0 _ 4 32 Try.underlying40 hi0 hz0 hz1 hz2 rfl (by decide) _ _ _ rfl (hr0.alloc _) ⟨W.heap.size, 0, none⟩ 1 1 (seg4 x.1 x.2) rfl rfl (World.news_of_block (cs := #[.int .i64 x.1.1, .int .i64 x.1.2, .int .i64 x.2.1, .int .i64 x.2.2]) (t := 44) (fr := (0, 0)) (heap_alloc_new W _)) (by simp [seg4, Value.oneCell']) (by simp [maxLen]; omega) (by omega) (by simp; omega) ?_; intro v' w1 hown' hgrow _; obtain ⟨g', cap', rfl⟩ := ownsRow_succ hown'; obtain ⟨hv1, hv2, hr2, hk2, hb2⟩ := M0.appended (by decide) hr0 hB1.size (by omega) hown' hgrow; have hc1 := hv1.cell; have hf1 := hv1.frozen)
    have hkt : KT w.heap.size W (w1.setCell ⟨w.heap.size, 0, none⟩ (.slice (some ⟨g', 0, none⟩) (pre.length + 1) cap')) := by
      refine ⟨hb2, fun k cs t ht h => ?_⟩
      have hk := (Array.getElem?_eq_some_iff.1 h).1
      have h2 : (W.alloc (.cells #[.int .i64 x.1.1, .int .i64 x.1.2, .int .i64 x.2.1, .int .i64 x.2.2] 44)).heap[k]? = some (.cells cs t (0, 0)) := (Below.heap_alloc W _ k hk).trans h
      have h3 : w1.heap[k]? = some (.cells cs t (0, 0)) := by
        refine (hgrow.block k (by simp; omega) (fun e => ?_)).trans h2
        rcases hr0.2 with ⟨e1, _⟩ | ⟨g0, c0', cur0, e1, _, hg0, _⟩
        · subst e1; cases e
        · subst e1
          have e' : k = g0 := Option.some.inj e
          rw [e', hg0] at h
          rcases ht with rfl | rfl <;> simp at h
      refine (Below.heap_setCell _ _ _ k (fun e => ?_)).trans h3
      have e' : k = w.heap.size := e
      rw [e', show W.heap[w.heap.size]? = _ from M0] at h
      rcases ht with rfl | rfl <;> simp at h
    exact ⟨hk2.from _, hkt, ⟨_, hv2, by rw [cellsS_append, List.length_append, List.length_singleton]; simpa [cellsS] using hr2, trivial⟩, hB1.trans hb2⟩
  case done =>
    rintro D W hD ⟨⟨vv, M0, hr0, _⟩, hB1⟩ hK
    have cR := M0.cell
    gi_wp2
    refine ⟨by simp, .inl ⟨_, _, rfl, run_takeDeferred hK, ?_⟩⟩
    exact ⟨vv, by simp [results, Try.results84, go_sem], vv, rfl, ownsRow_putObj hr0 _ hK rfl, hB1.trans (belowK_b (w := w) (Nat.le_refl _) _ D _ _ (by omega) hK rfl rfl)⟩
end Go.Proofs.Ythedlopfjlnogaa
namespace Go.Proofs.Ythedlopfjlnogaa
open Go.RowKit Go.Sort

/-- The edges that are told of a plate. -/
def plE (o : List P2) (hs : List (List P2)) : List (P2 × P2) := if plV o hs then segsL o ++ hs.flatMap segsL else []
theorem flat_len (hs : List (List P2)) (h : ∀ x ∈ hs, x.length ≤ 8) : (hs.flatMap segsL).length ≤ 8 * hs.length := by
  induction hs with
  | nil => simp
  | cons x xs ih =>
    have h1 := h x (by simp)
    have h2 := ih (fun y hy => h y (by simp [hy]))
    rw [List.flatMap_cons, List.length_append, segsL_len, List.length_cons]; omega
theorem plE_len (o : List P2) (hs : List (List P2)) : (plE o hs).length ≤ 24 := by
  unfold plE
  cases hv : plV o hs
  · simp
  · have L := (plV_iff o hs).1 hv
    have h0 := (okV_pos L.out).2
    have h1 := plV_len hv
    have h2 := flat_len hs (fun x hx => (okV_pos (L.ok x hx)).2)
    rw [if_pos rfl, List.length_append, segsL_len]; omega
theorem edgR_eq (x : RingT) (xs : List RingT) (hs : List (List P2)) (h : xs.map RingT.pts = hs) : edgR (x :: xs) = segsL x.pts ++ hs.flatMap segsL := by
  rw [← h]; simp [edgR, List.flatMap_map]
theorem ansS_mono {base base' top : Nat} {W : World} {v : Value} {ss : List (P2 × P2)} (h : AnsS base top W v ss) (hb : base' ≤ base) : AnsS base' top W v ss := by
  rcases h with h | ⟨g, c, e, h1, r⟩
  · exact .inl h
  · exact .inr ⟨g, c, e, by omega, r⟩
end Go.Proofs.Ythedlopfjlnogaa
namespace Go.Proofs.Ythedlopfjlnogaa
open Go.RowKit Go.Sort

/-- The edges that are told of a loop. -/
def edgV (l : List P2) : List (P2 × P2) := if okV l then segsL l else []
theorem edgV_len (l : List P2) : (edgV l).length ≤ 8 := by
  unfold edgV
  cases h : okV l
  · simp
  · have := ((okV_iff l).1 h).hi; rw [if_pos rfl, segsL_len]; omega
theorem loopEdges_ans (a : Option Addr) (len cap : Nat) (pts : List P2) (hlen : len ≤ 1048576) (w : World) (hP : Pts w.heap.size w a len pts) :
    Calls Try.prog 24 #[.slice a len cap] w fun e W' => ∃ v, e = .returned v ∧ AnsS w.heap.size W'.heap.size W' v (edgV pts) ∧ Below w.heap.size w W' := by
  refine (loopEdges_any a len cap pts hlen w hP).mono ?_
  rintro e W' ⟨h, J⟩
  unfold edgV
  rcases h with ⟨h, rfl⟩ | ⟨h, v, rfl, ho⟩
  · rw [h]; exact ⟨_, rfl, .inl ⟨rfl, _, _, rfl⟩, J⟩
  · rw [h]; refine ⟨_, rfl, AnsS.of_owns (n := len) ?_ (by rw [if_pos rfl, segsL_len]; exact hP.1), J⟩
    rw [if_pos rfl, segsL_cells, hP.1]; exact ho
theorem sLoopEdges_ans (a : Option Addr) (len cap : Nat) (pts : List P2) (hlen : len ≤ 1048576) (w : World) (hP : Pts w.heap.size w a len pts) :
    Calls Try.prog 34 #[.slice a len cap] w fun e W' => ∃ v, e = .returned v ∧ AnsS w.heap.size W'.heap.size W' v (edgV pts) ∧ Below w.heap.size w W' := by
  refine (sLoopEdges_any a len cap pts hlen w hP).mono ?_
  rintro e W' ⟨⟨v, rfl, ho⟩, J⟩
  unfold edgV
  cases h : okV pts
  · rw [h] at ho
    exact ⟨_, rfl, AnsS.of_owns (n := 0) ho rfl, J⟩
  · rw [h, if_pos rfl] at ho
    refine ⟨_, rfl, AnsS.of_owns (n := len) ?_ (by rw [if_pos rfl, segsL_len]; exact hP.1), J⟩
    rw [if_pos rfl, segsL_cells, hP.1]; exact ho
theorem PtBlk.own {W : World} {g c n : Nat} {l : List P2} (h : PtBlk W g c l n) : Own W g (c * 2) 33 := by obtain ⟨cur, h, hs, _⟩ := h; exact ⟨cur, h, hs⟩
set_option maxRecDepth 100000 in
set_option maxHeartbeats 2000000 in
theorem exLoopEdges_walk (W : World) (a : Option Addr) (len cap : Nat) (l : List P2) (hC : Came W a len cap l) :
    Calls Try.prog 9 #[.slice a len cap] W fun e w' => e = .returned (.bool true) ∧ Below W.heap.size W w' := by
  have hm := hC.len.2
  have hl := hC.len.1
  have hP := hC.pts
  clear hC
  by_cases hlen : (1048576 : Int) < (len : Int)
  · have hz : ∀ w, Calls Try.prog 33 #[.slice a len cap, .int .i64 1048576] w fun e w' => e = .returned (.int .i64 (-1)) ∧ w' = w := fun w => by
      have := sz_any a len cap 1048576 (by omega) (by omega) hm w; rwa [if_pos hlen] at this
    go_enter Try.func9, Try.ntmps9
    go_wp2_with (go_at_call 33; refine (hz _).mono ?_; rintro e w' ⟨rfl, rfl⟩)
    go_ret
    exact ⟨rfl, (by repeat (first | exact bw_refl _ | assumption | apply bw_drewN | apply bw_drew | apply bw_alloc | refine bw_set ?_ (by simp) _))⟩
  have hz : ∀ w, Calls Try.prog 33 #[.slice a len cap, .int .i64 1048576] w fun e w' => e = .returned (.int .i64 (1048576 - len)) ∧ w' = w := fun w => by
    have := sz_any a len cap 1048576 (by omega) (by omega) hm w; rwa [if_neg hlen] at this
  have hn : len ≤ 1048576 := by omega
  have hnn : ¬ (1048576 - (len : Int) < 0) := by omega
  have hse := edgV_len l
  have n1 : ¬ (1 + 2 * (len : Int) < 0) := by omega
  have n2 : ¬ (1 + 4 * ((edgV l).length : Int) < 0) := by omega
  go_enter Try.func9, Try.ntmps9
  go_wp2_with (go_at_call 33; refine (hz _).mono ?_; rintro e w' ⟨rfl, rfl⟩)
  refine (toPts_any a len cap l _ hP hn).mono ?_
  rintro e w1 ⟨g1, rfl, hg1, hb1, J1⟩
  go_wp2_with fail
  refine (sLoopEdges_ans _ len len l hn _ (hb1.pts hl)).mono ?_
  rintro e w2 ⟨v2, rfl, A2, J2⟩
  have K2 := bw_trans J1 J2
  go_wp2_with fail
  refine (toPts_any a len cap l _ ((hP.below K2).grow K2.size) hn).mono ?_
  rintro e w3 ⟨g3, rfl, hg3, hb3, J3⟩
  have hg33 := hb3.lt
  have K3 := bw_trans K2 J3
  replace A2 := A2.below J3
  go_wp2_with fail
  refine (loopEdges_ans _ len len l hn _ (hb3.pts hl)).mono ?_
  rintro e w4 ⟨v4, rfl, A4, J4⟩
  have K4 := bw_trans K3 J4
  replace A2 := A2.below J4
  replace hb3 := hb3.below J4
  go_wp2_with fail
  refine (eqSegs_same _ _ _ _ v4 v2 _ _ A4 A2 (by omega)).mono ?_
  rintro e w5 ⟨rfl, J5⟩
  have K5 := bw_trans K4 J5
  replace A2 := A2.below J5
  replace A4 := A4.below J5
  replace hb3 := hb3.below J5
  go_wp2_with fail
  refine (toPts_any a len cap l _ ((hP.below K5).grow K5.size) hn).mono ?_
  rintro e w6 ⟨g6, rfl, hg6, hb6, J6⟩
  have K6 := bw_trans K5 J6
  replace A2 := A2.below J6
  replace A4 := A4.below J6
  replace hb3 := hb3.below J6
  go_wp2_with fail
  refine (eqPts_same _ _ len _ _ l _ (hb3.pts hl) (hb6.pts hl) hn).mono ?_
  rintro e w7 ⟨rfl, J7⟩
  have K7 := bw_trans K6 J7
  replace A2 := A2.below J7
  replace A4 := A4.below J7
  replace hb3 := hb3.below J7
  go_wp2_with fail
  refine (markPts_any g3 len len (len * 2) 1 _ hb3.own (Nat.le_refl _) hn (by omega) (by omega)).mono ?_
  rintro e w8 ⟨rfl, hO8, O8⟩
  have z2 := J2.size
  have z1 := J1.size
  have z3 := J3.size
  have z37 : w3.heap.size ≤ w7.heap.size := by have := J4.size; have := J5.size; have := J6.size; have := J7.size; omega
  have K8 : Below w'.heap.size w' w8 := K7.trans (O8.below' (B := w'.heap.size) (by omega) (by omega))
  replace A2 := A2.only O8 (.inr hg3)
  replace A4 := A4.only O8 (.inl hg33)
  go_wp2_with fail
  refine (eqSegs_same _ _ _ _ v4 v2 _ _ A4 A2 (by omega)).mono ?_
  rintro e w9 ⟨rfl, J9⟩
  have K9 := bw_trans K8 J9
  replace A2 := A2.below J9
  replace A4 := A4.below J9
  go_wp2_with fail
  refine (markSegs_ans _ _ v4 _ _ A4 (by omega)).mono ?_
  rintro e w10 ⟨rfl, N10, r, hr, O10⟩
  have z9 : w3.heap.size ≤ w9.heap.size := by have := O8.size; have := J9.size; omega
  have K10 : Below w'.heap.size w' w10 := K9.trans (O10.below' (B := w'.heap.size) (by omega) (by omega))
  replace A2 := A2.only O10 (.inr (by omega))
  go_wp2_with fail
  refine (heldSegs_ans v4 _ _ N10 (by omega)).mono ?_
  rintro e w11 ⟨rfl, J11⟩
  have K11 := bw_trans K10 J11
  replace A2 := A2.below J11
  replace N10 := N10.below J11
  go_wp2_with fail
  refine (toPts_any a len cap l _ ((hP.below K11).grow K11.size) hn).mono ?_
  rintro e w12 ⟨g12, rfl, hg12, hb12, J12⟩
  have K12 := bw_trans K11 J12
  replace A2 := A2.below J12
  replace N10 := N10.below J12
  go_wp2_with fail
  refine (loopEdges_ans _ len len l hn _ (hb12.pts hl)).mono ?_
  rintro e w13 ⟨v13, rfl, A13, J13⟩
  have K13 := bw_trans K12 J13
  replace A2 := A2.below J13
  replace N10 := N10.below J13
  go_wp2_with fail
  refine (eqSegs_same _ _ _ _ v13 v2 _ _ A13 A2 (by omega)).mono ?_
  rintro e w14 ⟨rfl, J14⟩
  have K14 := bw_trans K13 J14
  replace N10 := N10.below J14
  go_wp2_with fail
  refine (heldSegs_ans v4 _ _ N10 (by omega)).mono ?_
  rintro e w15 ⟨rfl, J15⟩
  go_wp2_with fail
  go_ret
  exact ⟨rfl, bw_trans K14 J15⟩
end Go.Proofs.Ythedlopfjlnogaa
namespace Go.Proofs.Ythedlopfjlnogaa
open Go.RowKit Go.Shelf Go.Sort

theorem collect_any (B : Nat) (q : Option Addr) (rs : List RingT) (w : World) (hB : w.cell? ⟨B, 0, none⟩ = some (.pointer q)) (hR : RingN w.heap.size w q rs) (hes : (edgR rs).length ≤ 1000) :
    Calls Try.prog 54 #[.func (.func 85) #[] #[.pointer (some ⟨B, 0, none⟩)]] w fun e W' => ∃ v, e = .returned v ∧ W'.ownsRow w.heap.size 44 4 v (edgR rs).length (cellsS (edgR rs)) ∧ Below w.heap.size w W' := by
  have hcall := callsIn_wide.1 (appendSeq_in 10 (Nat.le_refl _) B q rs w hB hR hes)
  go_enter Try.func54, Try.ntmps54
  go_wp2_with fail
  refine hcall.mono ?_
  rintro e w1 ⟨v, rfl, ho, J⟩
  go_wp2_with fail
  go_ret
  exact ⟨v, rfl, ho, J⟩
set_option maxRecDepth 100000 in
set_option maxHeartbeats 2000000 in
theorem plateEdges_ans (a ah : Option Addr) (la ca nh ch : Nat) (o : List P2) (hs : List (List P2)) (w : World) (h : Plt w a la ah nh o hs) :
    Calls Try.prog 20 #[.agg #[.slice a la ca, .slice ah nh ch]] w fun e W' => ∃ v, e = .returned v ∧ AnsS w.heap.size W'.heap.size W' v (plE o hs) ∧ Below w.heap.size w W' := by
  have B0 : Below w.heap.size w (w.alloc (.cells #[.slice a la ca, .slice ah nh ch] 26)) := (by repeat (first | exact bw_refl _ | assumption | apply bw_drewN | apply bw_drew | apply bw_alloc | refine bw_set ?_ (by simp) _))
  have hlen := plE_len o hs
  cases hv : plV o hs
  · go_enter Try.func20, Try.ntmps20
    go_wp2_with fail
    refine (board_any a ah la ca nh ch o hs _ (h.below B0)).mono ?_
    rw [hv]
    rintro e w1 ⟨p, rfl, J, _⟩
    go_wp2_with fail
    go_ret
    exact ⟨_, rfl, .inl ⟨by unfold plE; rw [hv]; rfl, _, _, rfl⟩, bw_trans B0 J⟩
  · have hE : plE o hs = segsL o ++ hs.flatMap segsL := by unfold plE; rw [hv]; rfl
    go_enter Try.func20, Try.ntmps20
    go_wp2_with fail
    refine (board_any a ah la ca nh ch o hs _ (h.below B0)).mono ?_
    rintro e w1 ⟨p, rfl, J, hR⟩
    obtain ⟨b, xs, rfl, hR, hx⟩ := hR hv
    rw [hv]
    have K1 := bw_trans B0 J
    have hedg := edgR_eq ⟨a, la, ca, o⟩ xs hs hx
    rw [← hE] at hedg
    go_wp2_with fail
    refine (callsIn_wide.1 (ringEdges_in 10 (some ⟨b, 0, none⟩) w1)).mono ?_
    rintro e w2 ⟨rfl, rfl⟩
    have B1 : Below w1.heap.size w1 (w1.alloc (.cells #[.pointer (some ⟨b, 0, none⟩)] 80)) := (by repeat (first | exact bw_refl _ | assumption | apply bw_drewN | apply bw_drew | apply bw_alloc | refine bw_set ?_ (by simp) _))
    have hRN := RingL.ringN (Nat.le_refl _) (RingL.grow B1.size (RingL.below B1 (Nat.le_refl _) hR))
    go_wp2_with fail
    refine (collect_any w1.heap.size (some ⟨b, 0, none⟩) (⟨a, la, ca, o⟩ :: xs) _ (Lies.c1 (Lies.new w1 _ _)) hRN (by rw [hedg]; omega)).mono ?_
    rw [hedg]
    rintro e w3 ⟨v, rfl, ho, J3⟩
    go_wp2_with fail
    go_ret
    have zz := K1.size
    exact ⟨v, rfl, ansS_mono (AnsS.of_owns ho rfl) (by simp; omega), bw_trans K1 (bw_trans B1 J3)⟩
end Go.Proofs.Ythedlopfjlnogaa
namespace Go.Proofs.Ythedlopfjlnogaa
open Go.RowKit Go.Sort

theorem segsL_mem (l : List P2) (s : P2 × P2) : s ∈ segsL l ↔ ∃ i, i < l.length ∧ s = (ptAt l i, ptAt l (nxt l i)) := by
  unfold segsL; simp only [List.mem_map, List.mem_range]
  exact ⟨fun ⟨i, h, e⟩ => ⟨i, h, e.symm⟩, fun ⟨i, h, e⟩ => ⟨i, h, e.symm⟩⟩
theorem sAt_mem {ss : List (P2 × P2)} {j : Nat} (h : j < ss.length) : sAt ss j ∈ ss := by unfold sAt; rw [List.getElem?_eq_getElem h, Option.getD_some]; exact List.getElem_mem _
theorem plE_ok {o : List P2} {hs : List (List P2)} (hv : plV o hs = true) {s : P2 × P2} (h : s ∈ plE o hs) : sgP s.1 s.2 = true := by
  have L := (plV_iff o hs).1 hv
  unfold plE at h
  rw [hv, if_pos rfl, List.mem_append, List.mem_flatMap] at h
  rcases h with h | ⟨t, ht, h⟩
  · obtain ⟨i, hi, rfl⟩ := (segsL_mem _ _).1 h; exact okV_seg' L.out hi
  · obtain ⟨i, hi, rfl⟩ := (segsL_mem _ _).1 h; exact okV_seg' (L.ok t ht) hi
theorem plE_on {o : List P2} {hs : List (List P2)} (hv : plV o hs = true) (p : P2) : (∃ j, j < (plE o hs).length ∧ hasP (sAt (plE o hs) j).1 (sAt (plE o hs) j).2 p = true) ↔ (onL o p = true ∨ ∃ h ∈ hs, onL h p = true) := by
  have key : (∃ j, j < (plE o hs).length ∧ hasP (sAt (plE o hs) j).1 (sAt (plE o hs) j).2 p = true) ↔ ∃ s ∈ plE o hs, hasP s.1 s.2 p = true := by
    constructor
    · rintro ⟨j, hj, h⟩; exact ⟨_, sAt_mem hj, h⟩
    · rintro ⟨s, hs', h⟩
      obtain ⟨j, hj, rfl⟩ := List.getElem_of_mem hs'
      exact ⟨j, hj, by unfold sAt; rw [List.getElem?_eq_getElem hj, Option.getD_some]; exact h⟩
  rw [key]
  unfold plE
  rw [hv, if_pos rfl]
  constructor
  · rintro ⟨s, h, e⟩
    rw [List.mem_append, List.mem_flatMap] at h
    rcases h with h | ⟨t, ht, h⟩
    · obtain ⟨i, hi, rfl⟩ := (segsL_mem _ _).1 h; exact .inl ((onL_iff _ _).2 ⟨i, hi, e⟩)
    · obtain ⟨i, hi, rfl⟩ := (segsL_mem _ _).1 h; exact .inr ⟨t, ht, (onL_iff _ _).2 ⟨i, hi, e⟩⟩
  · rintro (h | ⟨t, ht, h⟩)
    · obtain ⟨i, hi, e⟩ := (onL_iff _ _).1 h; exact ⟨_, List.mem_append.2 (.inl ((segsL_mem _ _).2 ⟨i, hi, rfl⟩)), e⟩
    · obtain ⟨i, hi, e⟩ := (onL_iff _ _).1 h; exact ⟨_, List.mem_append.2 (.inr (List.mem_flatMap.2 ⟨t, ht, (segsL_mem _ _).2 ⟨i, hi, rfl⟩⟩)), e⟩
set_option maxRecDepth 100000 in
set_option maxHeartbeats 2000000 in
theorem plateIn_walk (w : World) (a0 : Option Addr) (len0 cap0 : Nat) (z0 : List Int) (r0 : IsRow .u8 w a0 len0 cap0 z0) :
    Calls Try.prog 6 #[.slice a0 len0 cap0] w fun e w' => e = .returned (.bool true) ∧ Below w.heap.size w w' := by
  by_cases hl : 1048576 < len0
  · go_enter Try.func6, Try.ntmps6
    go_wp2
    go_ret
    exact ⟨rfl, bw_refl _⟩
  have hl0 : len0 ≤ 1048576 := by omega
  clear hl
  have heq : ∀ b : Int, (b == b) = true := by simp
  go_enter Try.func6, Try.ntmps6
  go_wp2_with fail
  refine (drawPlateIn_any w _ r0 (bw_refl _)).mono ?_
  rintro e w1 ⟨⟨g, n, c, l⟩, hv, hs, x, y, he, hPB, hD, ⟨hs3, hst⟩, J1⟩
  obtain rfl : e = .returned (.tuple #[.agg #[.slice (some ⟨g, 0, none⟩) n c, hv], .agg #[.int .i64 x, .int .i64 y]]) := he
  obtain ⟨gh, ch, rfl⟩ : ∃ gh ch, hv = .slice (some ⟨gh, 0, none⟩) hs.length ch := own_seat hD.2.2.1 hst
  obtain ⟨W, hW, BW, T, T2⟩ := boxes2 w1 (.cells #[.slice (some ⟨g, 0, none⟩) n c, .slice (some ⟨gh, 0, none⟩) hs.length ch] 26) (.cells #[.int .i64 x, .int .i64 y] 33)
  replace hD := hD.below BW
  have K := bw_trans J1 BW
  go_upto_region 5 with fail
  rw [← hW]
  clear hW BW J1
  have hPl := hD.plt
  obtain ⟨t0, t1⟩ := blk_2 T
  obtain ⟨u0, u1⟩ := blk_2 T2
  go_wp2_with fail
  refine (plateIn_any _ _ n c hs.length ch l _ (x, y) _ hPl).mono ?_
  rintro e w2 ⟨rfl, J⟩
  replace K := bw_trans K J
  replace T := keep J T
  replace T2 := keep J T2
  replace hD := hD.below J
  replace hPl := hPl.below J
  clear J t0 t1 u0 u1
  obtain ⟨t0, t1⟩ := blk_2 T
  obtain ⟨u0, u1⟩ := blk_2 T2
  go_wp2_with fail
  refine (sPlateIn_any _ _ n c hs.length ch l _ (x, y) _ hPl).mono ?_
  rintro e w3 ⟨rfl, J⟩
  replace K := bw_trans K J
  replace T := keep J T
  replace T2 := keep J T2
  replace hD := hD.below J
  replace hPl := hPl.below J
  clear J t0 t1 u0 u1
  obtain ⟨t0, t1⟩ := blk_2 T
  obtain ⟨u0, u1⟩ := blk_2 T2
  cases hv : plV l (hs.map LoopT.l)
  case false =>
    go_wp2_with fail
    refine (sPlateOk_any _ _ n c hs.length ch l _ _ hPl).mono ?_
    rw [hv]
    rintro e w4 ⟨rfl, J⟩
    replace K := bw_trans K J
    replace hPl := hPl.below J
    obtain ⟨t0, t1⟩ := blk_2 (keep J T)
    obtain ⟨u0, u1⟩ := blk_2 (keep J T2)
    go_wp2_with fail
    refine (sPlateIn_any _ _ n c hs.length ch l _ (x, y) _ hPl).mono ?_
    rintro e w5 ⟨rfl, J⟩
    go_wp2_with fail
    go_ret
    exact ⟨rfl, bw_trans K J⟩
  go_wp2_with fail
  refine (sPlateOk_any _ _ n c hs.length ch l _ _ hPl).mono ?_
  rw [hv]
  rintro e w4 ⟨rfl, J⟩
  replace K := bw_trans K J
  replace T := keep J T
  replace T2 := keep J T2
  replace hD := hD.below J
  replace hPl := hPl.below J
  clear J t0 t1 u0 u1
  obtain ⟨t0, t1⟩ := blk_2 T
  obtain ⟨u0, u1⟩ := blk_2 T2
  cases hp : ptB x y
  case false =>
    go_wp2_with fail
    refine (sPt_any x y _).mono ?_
    rw [hp]
    rintro e w5 ⟨rfl, J⟩
    replace K := bw_trans K J
    replace hPl := hPl.below J
    obtain ⟨t0, t1⟩ := blk_2 (keep J T)
    obtain ⟨u0, u1⟩ := blk_2 (keep J T2)
    go_wp2_with fail
    refine (sPlateIn_any _ _ n c hs.length ch l _ (x, y) _ hPl).mono ?_
    rintro e w6 ⟨rfl, J⟩
    go_wp2_with fail
    go_ret
    exact ⟨rfl, bw_trans K J⟩
  go_wp2_with fail
  refine (sPt_any x y _).mono ?_
  rw [hp]
  rintro e w5 ⟨rfl, J⟩
  replace K := bw_trans K J
  replace T := keep J T
  replace T2 := keep J T2
  replace hD := hD.below J
  replace hPl := hPl.below J
  clear J t0 t1 u0 u1
  obtain ⟨t0, t1⟩ := blk_2 T
  obtain ⟨u0, u1⟩ := blk_2 T2
  have hL := (plV_iff _ _).1 hv
  obtain ⟨o1, o2, o3, o4, o5, o6, o7⟩ := hD.1
  have o2' : n ≤ 1048576 := by have : n ≤ 8 := o2; omega
  have hPo := blk_pts o7 o3
  have hio : inV l (x, y) = inI l (x, y) := inV_ok hL.out hp
  have hin : plInV l (hs.map LoopT.l) (x, y) = plI l (hs.map LoopT.l) (x, y) := plInV_ok hv hp
  have hone := plI_one hv (x, y)
  have hzero := plI_zero hv (p := (x, y))
  rw [hin]
  obtain ⟨N, hNN⟩ : ∃ N, hs.length = N := ⟨_, rfl⟩
  have HN : Hid (hs.length = N) := hNN
  have hs2 : N ≤ 2 := by have := plV_len hv; simpa [hNN] using this
  rw [hNN] at T t1 hPl
  rw [hNN]
  clear hNN hio
  go_wp2_with fail
  refine (in_any' (some ⟨g, 0, none⟩) n c l (x, y) o2' _ hPo).mono ?_
  rw [inV_ok hL.out hp]
  rintro e w6 ⟨rfl, J⟩
  replace K := bw_trans K J
  replace T := keep J T
  replace T2 := keep J T2
  replace hD := hD.below J
  replace hPl := hPl.below J
  clear J t0 t1 u0 u1 hPo
  have hokH : Hid (∀ t ∈ hs, okV t.l = true) := fun t ht => hL.ok _ (List.mem_map.2 ⟨t, ht, rfl⟩)
  have hon := plE_on hv (x, y)
  have hsg : Hid (∀ j, j < (plE l (hs.map LoopT.l)).length → sgP (sAt (plE l (hs.map LoopT.l)) j).1 (sAt (plE l (hs.map LoopT.l)) j).2 = true) := fun j hj => plE_ok hv (sAt_mem hj)
  have hH1 : Hid (plI l (hs.map LoopT.l) (x, y) = 1 ↔ inI l (x, y) = 1 ∧ ∀ j, j < N → inI ((hs.map LoopT.l)[j]?.getD []) (x, y) = -1) := by
    change _ ↔ _
    rw [hone]
    refine and_congr Iff.rfl ⟨fun h j hj => ?_, fun h t ht => ?_⟩
    · have hj' : j < (hs.map LoopT.l).length := by rw [List.length_map, HN.out]; exact hj
      rw [List.getElem?_eq_getElem hj', Option.getD_some]; exact h _ (List.getElem_mem _)
    · obtain ⟨j, hj, rfl⟩ := List.getElem_of_mem ht
      have := h j (by rw [List.length_map, HN.out] at hj; exact hj)
      rwa [List.getElem?_eq_getElem hj, Option.getD_some] at this
  have hH2 : Hid (plI l (hs.map LoopT.l) (x, y) = 0 ↔ ∃ j, j < (plE l (hs.map LoopT.l)).length ∧ hasP (sAt (plE l (hs.map LoopT.l)) j).1 (sAt (plE l (hs.map LoopT.l)) j).2 (x, y) = true) := by
    change _ ↔ _
    rw [hzero, hon]
  have hsl : 3 ≤ (plE l (hs.map LoopT.l)).length ∧ (plE l (hs.map LoopT.l)).length ≤ 24 := by
    refine ⟨?_, plE_len _ _⟩
    unfold plE; rw [hv, if_pos rfl, List.length_append, segsL_len]; have := (okV_pos hL.out).1; omega
  have hPE := plateEdges_ans (some ⟨g, 0, none⟩) (some ⟨gh, 0, none⟩) n c N ch l (hs.map LoopT.l)
  clear hone hzero hon hin hv hL o1 o2 o3 o4 o5 o6 o7 hPB hst hs3
  generalize plI l (hs.map LoopT.l) (x, y) = uin at *
  generalize plE l (hs.map LoopT.l) = ss at *
  generalize inI l (x, y) = uo at *
  obtain ⟨t0, t1⟩ := blk_2 T
  obtain ⟨u0, u1⟩ := blk_2 T2
  go_wp2_with fail
  go_loopw [6, 7] (fun ins i wr => ∃ (k : Nat) (b : Bool), k ≤ N ∧ i = .int .i64 k ∧ ins = .bool b ∧ (b = true ↔ uo = 1 ∧ ∀ j, j < k → inI ((hs.map LoopT.l)[j]?.getD []) (x, y) = -1) ∧ Below w6.heap.size w6 wr) (fun _ i _ => N - (intOf i).toNat)
  case atStart => exact ⟨0, _, Nat.zero_le _, rfl, rfl, by simp, bw_refl _⟩
  case round =>
    obtain ⟨k, b, hk, rfl, rfl, hb, hnx⟩ := hrel
    have T7 := keep hnx T
    have T27 := keep hnx T2
    clear t0 t1 u0 u1
    obtain ⟨t0, t1⟩ := blk_2 T7
    by_cases hlt : k < N
    case pos =>
      have i0 : (0 : Int) ≤ (k : Int) := Int.natCast_nonneg _
      have i1 : (k : Int) < (N : Int) := by omega
      have k2 : (k : Int) ≤ 2 := by omega
      have HB : Hid (b = true ↔ uo = 1 ∧ ∀ j, j < k → inI ((hs.map LoopT.l)[j]?.getD []) (x, y) = -1) := hb
      clear hb
      cases b
      · go_wp2_with fail
        refine wp_region_quiet_below (by kernel_rfl) (by kernel_rfl) ?_
        repeat (first | go_big_quiet_step (fail))
        refine wpQuiet_nil ?_
        intro _ hw'
        obtain ⟨⟨dq, osq⟩, hw''⟩ := hw'
        subst hw''
        have J := below_regrown wr dq osq
        generalize grow (redrawn wr dq) osq = v7 at J ⊢
        go_wp2_with fail
        go_roundw
        case rel => exact ⟨k + 1, false, by omega, by simp, rfl, ⟨(fun h => by cases h), (fun h => absurd (HB.out.2 ⟨h.1, fun j hj => h.2 j (by omega)⟩) (by simp))⟩, bw_trans hnx J⟩
        case measure => simp [intOf]; omega
      · obtain ⟨gq, nq, cq, lq, hq1, hq2, hqc, nq3, nq8, hql, hqb⟩ := (hD.below hnx).hole (j := k) (by rw [HN.out]; exact hlt)
        have hokq : okV lq = true := hokH.out _ (List.mem_of_getElem? hq1)
        have hPq := blk_pts hqb hql
        obtain ⟨uq, huq⟩ : ∃ uq, inI lq (x, y) = uq := ⟨_, rfl⟩
        have HW : Hid (∀ d os, Calls Try.prog 15 #[.slice (some ⟨gq, 0, none⟩) nq cq, .agg #[.int .i64 x, .int .i64 y]] (grow (redrawn wr d) os) fun e W' => e = .returned (.int .i64 uq) ∧ Below (grow (redrawn wr d) os).heap.size (grow (redrawn wr d) os) W') := fun d os => by
          have := in_any' (some ⟨gq, 0, none⟩) nq cq lq (x, y) (by omega) _ ((hPq.below (below_regrown wr d os)).grow (below_regrown wr d os).size)
          rwa [inV_ok hokq hp, huq] at this
        have HQ : Hid (inI ((hs.map LoopT.l)[k]?.getD []) (x, y) = uq) := by rw [hq2]; exact huq
        obtain ⟨t2, t3⟩ := reg_2 T7
        obtain ⟨u2, u3⟩ := reg_2 T27
        have hqc' := cell_regrown hqc
        clear hqc huq hokq hq2
        have stepB : Hid ((uq == -1) = true ↔ uo = 1 ∧ ∀ j, j < k + 1 → inI ((hs.map LoopT.l)[j]?.getD []) (x, y) = -1) := by
          change _ ↔ _
          have h1 := HB.out.1 rfl
          rw [beq_iff_eq]
          refine ⟨fun e => ⟨h1.1, fun j hj => ?_⟩, fun h => by rw [← HQ.out]; exact h.2 k (by omega)⟩
          rcases Nat.lt_or_ge j k with hjk | hjk
          · exact h1.2 j hjk
          · obtain rfl : j = k := by omega
            rw [HQ.out]; exact e
        obtain ⟨bb, hbb⟩ : ∃ bb, (uq == -1) = bb := ⟨_, rfl⟩
        rw [hbb] at stepB
        go_wp2_with fail
        refine wp_region_quiet_below (by kernel_rfl) (by kernel_rfl) ?_
        repeat (first | go_big_quiet_step (first | (go_at_call 15; with_reducible exact Calls.regrown_of (HW.out _ _))))
        refine wpQuiet_nil ?_
        intro _ hw'
        obtain ⟨⟨dq, osq⟩, hw''⟩ := hw'
        subst hw''
        have J := below_regrown wr dq osq
        generalize grow (redrawn wr dq) osq = v7 at J ⊢
        go_wp2_with fail
        go_roundw
        case rel => exact ⟨k + 1, bb, by omega, by simp, by first | rfl | simp [hbb], stepB.out, bw_trans hnx J⟩
        case measure => simp [intOf]; omega
    case neg =>
      obtain rfl : N = k := by omega
      have Hin : Hid (b = (uin == 1)) := by
        change _ = _
        rw [Bool.eq_iff_iff, beq_iff_eq, hH1.out, hb]
      clear hb
      have K7 := bw_trans K hnx
      go_wp2_with fail
      refine (hPE _ (hPl.below hnx)).mono ?_
      rintro e w8 ⟨v, rfl, hA, J8⟩
      rcases hA with ⟨h0, _⟩ | ⟨g8, c8, rfl, _, _, _, hO8, hS8⟩
      · rw [h0] at hsl; simp at hsl
      have T28 := keep J8 T27
      have K8 := bw_trans K7 J8
      have zg8 := hO8.lt
      obtain ⟨M, hM⟩ : ∃ M, ss.length = M := ⟨_, rfl⟩
      have HM : Hid (ss.length = M) := hM
      rw [hM] at hsl
      rw [hM]
      clear hM t0 t1
      go_wp2_with fail
      go_loopw [8, 10] (fun on i wr => ∃ (k : Nat) (b : Bool), k ≤ M ∧ i = .int .i64 k ∧ on = .bool b ∧ (b = true ↔ ∃ j, j < k ∧ hasP (sAt ss j).1 (sAt ss j).2 (x, y) = true) ∧ Below w8.heap.size w8 wr) (fun _ i _ => M - (intOf i).toNat)
      case atStart => exact ⟨0, false, Nat.zero_le _, rfl, rfl, by simp, bw_refl _⟩
      case round =>
        obtain ⟨k, b2, hk2, rfl, rfl, hb2, hn2⟩ := hrel
        by_cases hlt2 : k < M
        case pos =>
          have q0 : (0 : Int) ≤ (k : Int) := Int.natCast_nonneg _
          have q1 : (k : Int) < (M : Int) := by omega
          have q2 : (k : Int) ≤ 24 := by omega
          have HB2 : Hid (b2 = true ↔ ∃ j, j < k ∧ hasP (sAt ss j).1 (sAt ss j).2 (x, y) = true) := hb2
          clear hb2
          cases b2
          · obtain ⟨d0, d1, d2, d3⟩ := regrow4 ((hS8.below hn2 zg8) k (by rw [HM.out]; exact hlt2))
            obtain ⟨u2, u3⟩ := reg_2 (keep hn2 T28)
            have sk := hsg.out k (by rw [HM.out]; exact hlt2)
            obtain ⟨bb, hbb⟩ : ∃ bb, hasP (sAt ss k).1 (sAt ss k).2 (x, y) = bb := ⟨_, rfl⟩
            have HX : Hid (∀ w, Calls Try.prog 21 #[.agg #[.int .i64 (sAt ss k).1.1, .int .i64 (sAt ss k).1.2, .int .i64 (sAt ss k).2.1, .int .i64 (sAt ss k).2.2], .agg #[.int .i64 x, .int .i64 y]] w fun e w' => e = .returned (.bool bb) ∧ Below w.heap.size w w') := fun w => by
              have := has_raw (sAt ss k).1 (sAt ss k).2 (x, y) w; rwa [hasQ_of sk hp, hbb] at this
            have HBB : Hid (bb = true ↔ ∃ j, j < k + 1 ∧ hasP (sAt ss j).1 (sAt ss j).2 (x, y) = true) := by
              change _ ↔ _
              rw [← hbb]
              refine ⟨fun h => ⟨k, by omega, h⟩, fun ⟨j, hj, h⟩ => ?_⟩
              rcases Nat.lt_or_ge j k with hjk | hjk
              · exact absurd (HB2.out.2 ⟨j, hjk, h⟩) (by simp)
              · obtain rfl : j = k := by omega
                exact h
            clear hbb sk
            go_wp2_with fail
            refine wp_region_quiet_below (by kernel_rfl) (by kernel_rfl) ?_
            repeat (first | go_big_quiet_step (first | (go_at_call 21; with_reducible exact Calls.regrown_of (HX.out _))))
            refine wpQuiet_nil ?_
            intro _ hw'
            obtain ⟨⟨dq, osq⟩, hw''⟩ := hw'
            subst hw''
            have J := below_regrown wr dq osq
            generalize grow (redrawn wr dq) osq = v9 at J ⊢
            go_wp2_with fail
            go_roundw
            case rel => exact ⟨k + 1, bb, by omega, by simp, by first | rfl | simp, HBB.out, bw_trans hn2 J⟩
            case measure => simp [intOf]; omega
          · go_wp2_with fail
            refine wp_region_quiet_below (by kernel_rfl) (by kernel_rfl) ?_
            repeat (first | go_big_quiet_step (fail))
            refine wpQuiet_nil ?_
            intro _ hw'
            obtain ⟨⟨dq, osq⟩, hw''⟩ := hw'
            subst hw''
            have J := below_regrown wr dq osq
            generalize grow (redrawn wr dq) osq = v9 at J ⊢
            go_wp2_with fail
            go_roundw
            case rel => exact ⟨k + 1, true, by omega, by simp, rfl, ⟨(fun _ => by obtain ⟨j, hj, h⟩ := HB2.out.1 (by first | rfl | trivial); exact ⟨j, by omega, h⟩), (fun _ => rfl)⟩, bw_trans hn2 J⟩
            case measure => simp [intOf]; omega
        case neg =>
          obtain rfl : M = k := by omega
          have Hon : Hid (b2 = (uin == 0)) := by
            change _ = _
            rw [Bool.eq_iff_iff, beq_iff_eq, hH2.out, hb2, HM.out]
          clear hb2
          rw [Hin.out, Hon.out]
          go_wp2_with fail
          go_ret
          exact ⟨by first | rfl | simp, bw_trans K8 hn2⟩
end Go.Proofs.Ythedlopfjlnogaa
namespace Go.Proofs.Ythedlopfjlnogaa
open Go.RowKit Go.Sort

theorem sEdges_pts (a1 : Option Addr) (len1 cap1 : Nat) (l1 : List P2) (ok1 : okV l1 = true) (w : World) (hP1 : Pts w.heap.size w a1 len1 l1) :
    Calls Try.prog 68 #[.slice a1 len1 cap1] w fun e w' => ∃ g c, e = .returned (.slice (some ⟨g, 0, none⟩) len1 c) ∧ w'.ownsRow w.heap.size 44 4 (.slice (some ⟨g, 0, none⟩) len1 c) len1 (cellsS (segsL l1)) ∧ Below w.heap.size w w' := by
  have h1 := okV_pos ok1
  obtain ⟨e1, c1⟩ := hP1
  rcases c1 with h0 | ⟨b1, off1, rfl, hb1, hc1⟩
  · omega
  refine (sEdges_ok b1 off1 len1 cap1 l1 w e1 (by omega) (by omega) hb1 hc1).mono ?_
  rintro e w' ⟨v, rfl, ho, J⟩
  rw [← e1, ← segsL_cells, e1] at ho
  have ho' := ho
  rcases ho.2 with ⟨_, h0⟩ | ⟨g, c, cur, rfl, _⟩
  · omega
  · exact ⟨g, c, rfl, ho', J⟩
theorem cellsS_one (ss : List (P2 × P2)) : ∀ u ∈ cellsS ss, u.oneCell' = true := by
  intro u hu
  simp only [cellsS, List.mem_flatMap, seg4] at hu
  obtain ⟨s, _, hs⟩ := hu
  simp at hs
  rcases hs with rfl | rfl | rfl | rfl <;> rfl
set_option maxRecDepth 100000 in
set_option maxHeartbeats 4000000 in
theorem l11Edges_ok (a ah : Option Addr) (la ca nh ch : Nat) (o : List P2) (hs : List (List P2)) (hv : plV o hs = true) (w : World) (h : Plt w a la ah nh o hs) :
    Calls Try.prog 59 #[.agg #[.slice a la ca, .slice ah nh ch]] w fun e W' => ∃ v, e = .returned v ∧ W'.ownsRow w.heap.size 44 4 v (plE o hs).length (cellsS (plE o hs)) ∧ Below w.heap.size w W' := by
  obtain ⟨i0, hi0, hz0, hz1, hz2⟩ := info_parts Try.infoSeg
  obtain ⟨W, hW, BW, TP⟩ : ∃ W, W = w.alloc (.cells #[.slice a la ca, .slice ah nh ch] 26) ∧ Below w.heap.size w W ∧ W.heap[w.heap.size]? = some (.cells #[.slice a la ca, .slice ah nh ch] 26 (0, 0)) := ⟨_, rfl, (by repeat (first | exact bw_refl _ | assumption | apply bw_drewN | apply bw_drew | apply bw_alloc | refine bw_set ?_ (by simp) _)), heap_new _ _⟩
  have hPV := (plV_iff o hs).1 hv
  obtain ⟨hla, hP, hlen, A, L, C, hS, hH⟩ := h.below BW
  have HO := sEdges_pts a la ca o hPV.out W hP
  have HOK : Hid (∀ j, j < nh → okV (hs[j]?.getD []) = true) := fun j hj => hPV.ok _ (by rw [List.getElem?_eq_getElem (by omega), Option.getD_some]; exact List.getElem_mem _)
  have HE : Hid (plE o hs = segsL o ++ (hs.take nh).flatMap segsL) := by change _ = _; unfold plE; rw [hv, if_pos rfl, ← hlen, List.take_length]
  have HT : Hid (∀ k, k < nh → (hs.take (k + 1)).flatMap segsL = (hs.take k).flatMap segsL ++ segsL (hs[k]?.getD [])) := fun k hk => by
    rw [List.take_add_one, List.flatMap_append, List.getElem?_eq_getElem (by omega)]; simp
  have HB : Hid (∀ k, k ≤ nh → (segsL o ++ (hs.take k).flatMap segsL).length ≤ 24) := fun k hk => by
    have h0 := (okV_pos hPV.out).2
    have h2 := flat_len (hs.take k) (fun x hx => (okV_pos (hPV.ok x (List.mem_of_mem_take hx))).2)
    have h3 := hPV.len
    rw [List.length_append, segsL_len]; rw [List.length_take] at h2; omega
  have hl0 : Hid (la = (segsL o).length) := by change _ = _; rw [segsL_len]; exact hP.1.symm
  have hnh : nh ≤ 2 := by have := hPV.len; omega
  clear hlen hPV hv h
  obtain ⟨t0, t1⟩ := blk_2 TP
  have zP := blk_lt TP
  go_enter Try.func59, Try.ntmps59
  go_upto_region 1 with fail
  rw [← hW]
  clear hW
  go_wp2_with fail
  refine HO.mono ?_
  rintro e v ⟨g0, c0, rfl, ho0, J⟩
  have ho1 : v.ownsRow W.heap.size 44 4 (.slice (some ⟨g0, 0, none⟩) la c0) (segsL o ++ (hs.take 0).flatMap segsL).length (cellsS (segsL o ++ (hs.take 0).flatMap segsL)) := by
    have e0 := hl0.out; simp only [List.take_zero, List.flatMap_nil, List.append_nil]; rw [← e0]; exact ho0
  clear HO t0 t1 ho0
  go_wp2_with fail
  go_loopw [3, 4] (fun out i wr => ∃ k : Nat, k ≤ nh ∧ i = .int .i64 k ∧ wr.ownsRow W.heap.size 44 4 out (segsL o ++ (hs.take k).flatMap segsL).length (cellsS (segsL o ++ (hs.take k).flatMap segsL)) ∧ Below W.heap.size W wr) (fun _ i _ => nh - (intOf i).toNat)
  case atStart => exact ⟨0, Nat.zero_le _, rfl, ho1, J⟩
  case round =>
    obtain ⟨k, hk, rfl, hown, hnx⟩ := hrel
    obtain ⟨t0, t1⟩ := blk_2 (keep hnx TP)
    have zz := hnx.size
    by_cases hlt : k < nh
    case neg =>
      obtain rfl : nh = k := by omega
      rw [← HE.out] at hown
      go_wp2_with fail
      go_ret
      exact ⟨_, rfl, own_base hown BW.size, bw_trans BW hnx⟩
    case pos =>
      rcases hS.below hnx with h0 | ⟨b, off, rfl, hbl, hcs⟩
      · omega
      have c1 := hcs k hlt
      clear hcs
      have j0 : (0 : Int) ≤ (k : Int) := Int.natCast_nonneg _
      have j1 : (k : Int) < (nh : Int) := by omega
      obtain ⟨hLk, hPk⟩ := hH k hlt
      have hokk := HOK.out k hlt
      have hcall := sEdges_pts (A k) (L k) (C k) _ hokk wr ((hPk.below hnx).grow hnx.size)
      have hlk : (segsL (hs[k]?.getD [])).length = L k := by rw [segsL_len]; exact hPk.1
      have hbk := HB.out k hk
      have hbk1 := HB.out (k + 1) hlt
      rw [HT.out k hlt, ← List.append_assoc, List.length_append, hlk] at hbk1
      have hl1 : (segsL o ++ (hs.take k).flatMap segsL).length + L k = (segsL o ++ (hs.take (k + 1)).flatMap segsL).length := by rw [HT.out k hlt, ← List.append_assoc, List.length_append (bs := segsL _), hlk]
      have hc1 : cellsS (segsL o ++ (hs.take (k + 1)).flatMap segsL) = cellsS (segsL o ++ (hs.take k).flatMap segsL) ++ cellsS (segsL (hs[k]?.getD [])) := by rw [HT.out k hlt, ← List.append_assoc, cellsS_append _ (segsL _)]
      have HL1 : Hid ((segsL o ++ (hs.take k).flatMap segsL).length + L k = (segsL o ++ (hs.take (k + 1)).flatMap segsL).length) := hl1
      have HC1 : Hid (cellsS (segsL o ++ (hs.take (k + 1)).flatMap segsL) = cellsS (segsL o ++ (hs.take k).flatMap segsL) ++ cellsS (segsL (hs[k]?.getD []))) := hc1
      have HLK : Hid ((cellsS (segsL (hs[k]?.getD []))).length = L k * 4) := by change _ = _; rw [cellsS_len, hlk]
      have hm1 : (segsL o ++ (hs.take k).flatMap segsL).length + L k ≤ 24 := by rw [hl1]; exact HB.out (k + 1) hlt
      clear hl1 hc1 hbk1 hlk
      go_wp2_with (first
        | (go_at_call 68; refine hcall.mono ?_; rintro e w7 ⟨g7, c7, rfl, ho7, J7⟩; have hown7 := hown.kept (w' := w7) (row := none) ⟨J7.os, J7.tape, J7.output, J7.size, fun j hj _ => J7.block j hj⟩ (Classical.em _); have hn7 := bw_trans hnx J7; have zz7 := hn7.size)
        | (at_builtin; refine wpList_append_own_wide _ rfl _ _ _ rfl W.heap.size 44 i0 _ 4 32 Try.underlying40 hi0 hz0 hz1 hz2 rfl (by omega) _ _ _ rfl hown7 ⟨g7, 0, none⟩ (L k) c7 (cellsS (segsL (hs[k]?.getD []))) rfl HLK.out (ho7.cells (g := g7) rfl) (cellsS_one _) (by simp [maxLen] at hm1 ⊢; omega) (by omega) (by omega) ?_; intro v8 w8 hown8 hgr8 hnil8))
      go_roundw
      case rel => exact ⟨k + 1, by omega, by simp, by rw [← HL1.out, HC1.out]; exact hown8, hn7.grown hgr8 zz7 (fun j e => (hown7.lt j e).1)⟩
      case measure => simp [intOf]; omega
set_option maxHeartbeats 1000000 in
theorem sPlateEdges_ans (a ah : Option Addr) (la ca nh ch : Nat) (o : List P2) (hs : List (List P2)) (w : World) (h : Plt w a la ah nh o hs) :
    Calls Try.prog 23 #[.agg #[.slice a la ca, .slice ah nh ch]] w fun e W' => ∃ v, e = .returned v ∧ AnsS w.heap.size W'.heap.size W' v (plE o hs) ∧ Below w.heap.size w W' := by
  obtain ⟨W, hW, BW, TP⟩ : ∃ W, W = w.alloc (.cells #[.slice a la ca, .slice ah nh ch] 26) ∧ Below w.heap.size w W ∧ W.heap[w.heap.size]? = some (.cells #[.slice a la ca, .slice ah nh ch] 26 (0, 0)) := ⟨_, rfl, (by repeat (first | exact bw_refl _ | assumption | apply bw_drewN | apply bw_drew | apply bw_alloc | refine bw_set ?_ (by simp) _)), heap_new _ _⟩
  obtain ⟨t0, t1⟩ := blk_2 TP
  have zz := BW.size
  cases hv : plV o hs
  · go_enter Try.func23, Try.ntmps23
    go_upto_region 1 with fail
    rw [← hW]
    clear hW
    go_wp2_with fail
    refine (sPlateOk_any a ah la ca nh ch o hs _ (h.below BW)).mono ?_
    rw [hv]
    rintro e w1 ⟨rfl, J⟩
    go_wp2_with fail
    go_ret
    exact ⟨_, rfl, .inl ⟨by unfold plE; rw [hv]; rfl, _, _, rfl⟩, bw_alloc (bw_trans BW J) _⟩
  · go_enter Try.func23, Try.ntmps23
    go_upto_region 1 with fail
    rw [← hW]
    clear hW
    go_wp2_with fail
    refine (sPlateOk_any a ah la ca nh ch o hs _ (h.below BW)).mono ?_
    rw [hv]
    rintro e w1 ⟨rfl, J⟩
    clear t0 t1
    obtain ⟨t0, t1⟩ := blk_2 (keep J TP)
    have zJ := J.size
    go_wp2_with fail
    refine (l11Edges_ok a ah la ca nh ch o hs hv _ ((h.below BW).below J)).mono ?_
    rintro e w2 ⟨v, rfl, ho, J2⟩
    go_wp2_with fail
    go_ret
    exact ⟨_, rfl, ansS_mono (AnsS.of_owns ho rfl) (by omega), bw_trans (bw_trans BW J) J2⟩
end Go.Proofs.Ythedlopfjlnogaa
namespace Go.Proofs.Ythedlopfjlnogaa
open Go.RowKit Go.Sort

theorem ansS_slice {base top : Nat} {W : World} {v : Value} {ss : List (P2 × P2)} (h : AnsS base top W v ss) : ∃ a c, v = .slice a ss.length c := by
  rcases h with ⟨rfl, a, c, rfl⟩ | ⟨g, c, rfl, _⟩
  · exact ⟨a, c, rfl⟩
  · exact ⟨_, c, rfl⟩
theorem ansS_row {base top : Nat} {W : World} {v : Value} {ss : List (P2 × P2)} (h : AnsS base top W v ss) (hs : 0 < ss.length) : ∃ g c, v = .slice (some ⟨g, 0, none⟩) ss.length c ∧ g < W.heap.size ∧ SRow W g ss := by
  rcases h with ⟨rfl, a, c, rfl⟩ | ⟨g, c, rfl, _, _, _, hO, hS⟩
  · simp at hs
  · exact ⟨g, c, rfl, hO.lt, hS⟩
theorem plE_meet {o : List P2} {hs : List (List P2)} (hv : plV o hs = true) {i k : Nat} (hk : k < o.length) (hi : o.length ≤ i) (hi2 : i < (plE o hs).length) : meetP (sAt (plE o hs) i).1 (sAt (plE o hs) i).2 (sAt (plE o hs) k).1 (sAt (plE o hs) k).2 = false := by
  have L := (plV_iff o hs).1 hv
  have hE : plE o hs = segsL o ++ hs.flatMap segsL := by unfold plE; rw [hv]; rfl
  rw [hE] at hi2 ⊢
  have e1 : sAt (segsL o ++ hs.flatMap segsL) k = (ptAt o k, ptAt o (nxt o k)) := by
    rw [← segsL_at o k hk]; unfold sAt; rw [List.getElem?_append_left (by rw [segsL_len]; exact hk)]
  have e2 : sAt (segsL o ++ hs.flatMap segsL) i ∈ hs.flatMap segsL := by
    rw [List.length_append] at hi2
    have : sAt (segsL o ++ hs.flatMap segsL) i = sAt (hs.flatMap segsL) (i - (segsL o).length) := by unfold sAt; rw [List.getElem?_append_right (by rw [segsL_len]; exact hi)]
    rw [this]; exact sAt_mem (by rw [segsL_len] at hi2 ⊢; omega)
  obtain ⟨t, ht, h⟩ := List.mem_flatMap.1 e2
  obtain ⟨q, hq, e⟩ := (segsL_mem _ _).1 h
  rw [e1, e]
  have ha := ((arB_iff _ _).1 (L.ar t ht)).1
  rw [← apL_comm] at ha
  exact (apL_iff t o).1 ha q hq k hk
set_option maxRecDepth 100000 in
set_option maxHeartbeats 2000000 in
theorem plateEdges_walk (w : World) (a0 : Option Addr) (len0 cap0 : Nat) (z0 : List Int) (r0 : IsRow .u8 w a0 len0 cap0 z0) :
    Calls Try.prog 7 #[.slice a0 len0 cap0] w fun e w' => e = .returned (.bool true) ∧ Below w.heap.size w w' := by
  obtain ⟨i0, hi0, hz0, hz1, hz2⟩ := info_parts Try.infoSeg
  by_cases hl : 1048576 < len0
  · go_enter Try.func7, Try.ntmps7
    go_wp2
    go_ret
    exact ⟨rfl, bw_refl _⟩
  have hl0 : len0 ≤ 1048576 := by omega
  clear hl
  go_enter Try.func7, Try.ntmps7
  go_wp2_with fail
  refine (drawPlateEdges_any w _ r0 (bw_refl _)).mono ?_
  rintro e w1 ⟨⟨g, n, c, l⟩, hv, hs, he, hD, ⟨hs3, hst⟩, J1⟩
  obtain rfl : e = .returned (.agg #[.slice (some ⟨g, 0, none⟩) n c, hv]) := he
  obtain ⟨gh, ch, rfl⟩ : ∃ gh ch, hv = .slice (some ⟨gh, 0, none⟩) hs.length ch := own_seat hD.2.2.1 hst
  obtain ⟨W, hW, BW, T⟩ := boxes1' w1 (.cells #[.slice (some ⟨g, 0, none⟩) n c, .slice (some ⟨gh, 0, none⟩) hs.length ch] 26)
  replace hD := hD.below BW
  have K := bw_trans J1 BW
  go_upto_region 5 with fail
  rw [← hW]
  clear hW BW J1
  have hPl := hD.plt
  obtain ⟨N, hNN⟩ : ∃ N, hs.length = N := ⟨_, rfl⟩
  have HN : Hid (hs.length = N) := hNN
  rw [hNN] at T hPl
  rw [hNN]
  clear hNN
  obtain ⟨t0, t1⟩ := blk_2 T
  go_wp2_with fail
  refine (plateEdges_ans _ _ n c N ch l _ _ hPl).mono ?_
  rintro e w2 ⟨v2, rfl, A2, J⟩
  replace K := bw_trans K J
  replace T := keep J T
  replace hD := hD.below J
  replace hPl := hPl.below J
  clear J t0 t1
  obtain ⟨t0, t1⟩ := blk_2 T
  go_wp2_with fail
  refine (sPlateEdges_ans _ _ n c N ch l _ _ hPl).mono ?_
  rintro e w3 ⟨v3, rfl, A3, J⟩
  replace K := bw_trans K J
  replace T := keep J T
  replace hD := hD.below J
  replace A2 := A2.below J
  clear J t0 t1 hPl
  obtain ⟨a3, c3, rfl⟩ := ansS_slice A3
  obtain ⟨M, hM⟩ : ∃ M, (plE l (hs.map LoopT.l)).length = M := ⟨_, rfl⟩
  have HM : Hid ((plE l (hs.map LoopT.l)).length = M) := hM
  have hM24 : M ≤ 24 := by have := plE_len l (hs.map LoopT.l); omega
  cases hv : plV l (hs.map LoopT.l)
  case false =>
    obtain ⟨a2, c2, rfl⟩ := ansS_slice A2
    have hM0 : M = 0 := by rw [← hM]; unfold plE; rw [hv]; rfl
    rw [hM, hM0]
    go_wp2_with fail
    go_ret
    exact ⟨rfl, K⟩
  have hL := (plV_iff _ _).1 hv
  have hpos := (okV_pos hL.out).1
  have hE : Hid (plE l (hs.map LoopT.l) = segsL l ++ (hs.map LoopT.l).flatMap segsL) := by change _ = _; unfold plE; rw [hv]; rfl
  have hM3 : 3 ≤ M := by rw [← hM, hE.out, List.length_append, segsL_len]; omega
  obtain ⟨g2, c2, rfl, zg2, S2⟩ := ansS_row A2 (by omega)
  rw [hM]
  have hMz : ((M : Int) == 0) = false := by rw [beq_eq_false_iff_ne]; omega
  have hMz' : (M = 0) = False := by simp; omega
  obtain ⟨o1, o2, o3, o4, o5, o6, o7⟩ := hD.1
  have o3' : l.length = n := o3
  have o2' : n ≤ 8 := o2
  have hPo := blk_pts o7 o3
  have hN2 : N ≤ 2 := by have := plV_len hv; rw [List.length_map, HN.out] at this; exact this
  obtain ⟨t0, t1⟩ := blk_2 T
  clear hM
  go_wp2_with fail
  refine (loopEdges_any (some ⟨g, 0, none⟩) n c l (by omega) _ hPo).mono ?_
  rintro e w4 ⟨hans, J4⟩
  rcases hans with ⟨h0, _⟩ | ⟨_, vv, rfl, ho⟩
  · rw [hL.out] at h0; cases h0
  rw [show segCells l n = cellsS (segsL l) by rw [segsL_cells, o3']] at ho
  obtain ⟨g4, c4, rfl⟩ : ∃ g4 c4, vv = .slice (some ⟨g4, 0, none⟩) n c4 := by
    rcases ho.2 with ⟨_, h0⟩ | ⟨g4, c4, cur, e4, _⟩
    · omega
    · exact ⟨g4, c4, e4⟩
  have hkl : Hid (∀ k, k < N → ((hs.map LoopT.l).take (k + 1)).flatMap segsL = ((hs.map LoopT.l).take k).flatMap segsL ++ segsL ((hs.map LoopT.l)[k]?.getD [])) := fun k hk => by
    rw [List.take_add_one, List.flatMap_append, List.getElem?_eq_getElem (by rw [List.length_map, HN.out]; exact hk)]; simp
  have HB : Hid (∀ k, k ≤ N → (segsL l ++ ((hs.map LoopT.l).take k).flatMap segsL).length ≤ 24) := fun k hk => by
    have h2 := flat_len ((hs.map LoopT.l).take k) (fun x hx => (okV_pos (hL.ok x (List.mem_of_mem_take hx))).2)
    rw [List.length_take] at h2
    rw [List.length_append, segsL_len]; omega
  have hokH : Hid (∀ t ∈ hs, okV t.l = true) := fun t ht => hL.ok _ (List.mem_map.2 ⟨t, ht, rfl⟩)
  have ho1 : w4.ownsRow w3.heap.size 44 4 (.slice (some ⟨g4, 0, none⟩) n c4) (segsL l ++ ((hs.map LoopT.l).take 0).flatMap segsL).length (cellsS (segsL l ++ ((hs.map LoopT.l).take 0).flatMap segsL)) := by
    simp only [List.take_zero, List.flatMap_nil, List.append_nil]; rw [segsL_len, o3']; exact ho
  clear ho t0 t1
  go_wp2_with fail
  go_loopw [6, 8] (fun all i wr => ∃ k : Nat, k ≤ N ∧ i = .int .i64 k ∧ wr.ownsRow w3.heap.size 44 4 all (segsL l ++ ((hs.map LoopT.l).take k).flatMap segsL).length (cellsS (segsL l ++ ((hs.map LoopT.l).take k).flatMap segsL)) ∧ Below w3.heap.size w3 wr) (fun _ i _ => N - (intOf i).toNat)
  case atStart => exact ⟨0, Nat.zero_le _, rfl, ho1, J4⟩
  case round =>
    obtain ⟨k, hk, rfl, hown, hnx⟩ := hrel
    obtain ⟨t0, t1⟩ := blk_2 (keep hnx T)
    have zz := hnx.size
    by_cases hlt : k < N
    case pos =>
      have j0 : (0 : Int) ≤ (k : Int) := Int.natCast_nonneg _
      have j1 : (k : Int) < (N : Int) := by omega
      have j2 : (k : Int) ≤ 2 := by omega
      obtain ⟨gq, nq, cq, lq, hq1, hq2, hqc, nq3, nq8, hql, hqb⟩ := (hD.below hnx).hole (j := k) (by rw [HN.out]; exact hlt)
      have hokq : okV lq = true := hokH.out _ (List.mem_of_getElem? hq1)
      have hcall := loopEdges_any (some ⟨gq, 0, none⟩) nq cq lq (by omega) wr (blk_pts hqb hql)
      have hT1 := hkl.out k hlt
      rw [hq2] at hT1
      have HL1 : Hid ((segsL l ++ ((hs.map LoopT.l).take k).flatMap segsL).length + nq = (segsL l ++ ((hs.map LoopT.l).take (k + 1)).flatMap segsL).length) := by change _ = _; rw [hT1, ← List.append_assoc, List.length_append (bs := segsL _), segsL_len, hql]
      have HC1 : Hid (cellsS (segsL l ++ ((hs.map LoopT.l).take (k + 1)).flatMap segsL) = cellsS (segsL l ++ ((hs.map LoopT.l).take k).flatMap segsL) ++ cellsS (segsL lq)) := by change _ = _; rw [hT1, ← List.append_assoc, cellsS_append _ (segsL _)]
      have HLK : Hid ((cellsS (segsL lq)).length = nq * 4) := by change _ = _; rw [cellsS_len, segsL_len, hql]
      have HCC : Hid (segCells lq nq = cellsS (segsL lq)) := by change _ = _; rw [segsL_cells, hql]
      have hm1 : (segsL l ++ ((hs.map LoopT.l).take k).flatMap segsL).length + nq ≤ 24 := by rw [HL1.out]; exact HB.out (k + 1) hlt
      clear hT1 hq2
      go_wp2_with (first
        | (go_at_call 24; refine hcall.mono ?_; rintro e w7 ⟨hans, J7⟩; obtain ⟨g7, c7, rfl, ho7⟩ : ∃ g7 c7, e = .returned (.slice (some ⟨g7, 0, none⟩) nq c7) ∧ w7.ownsRow wr.heap.size 44 4 (.slice (some ⟨g7, 0, none⟩) nq c7) nq (cellsS (segsL lq)) := (by
            rcases hans with ⟨h0, _⟩ | ⟨_, vv, rfl, ho⟩
            · rw [hokq] at h0; cases h0
            · rw [HCC.out] at ho
              have ho' := ho
              rcases ho.2 with ⟨_, h0⟩ | ⟨g4, c4, cur, e4, _⟩
              · omega
              · subst e4; exact ⟨g4, c4, rfl, ho'⟩); have hown7 := hown.kept (w' := w7) (row := none) ⟨J7.os, J7.tape, J7.output, J7.size, fun j hj _ => J7.block j hj⟩ (Classical.em _); have hn7 := bw_trans hnx J7; have zz7 := hn7.size)
        | (at_builtin; refine wpList_append_own_wide _ rfl _ _ _ rfl w3.heap.size 44 i0 _ 4 32 Try.underlying40 hi0 hz0 hz1 hz2 rfl (by omega) _ _ _ rfl hown7 ⟨g7, 0, none⟩ nq c7 (cellsS (segsL lq)) rfl HLK.out (ho7.cells (g := g7) rfl) (cellsS_one _) (by simp [maxLen] at hm1 ⊢; omega) (by omega) (by omega) ?_; intro v8 w8 hown8 hgr8 hnil8))
      go_roundw
      case rel => exact ⟨k + 1, by omega, by simp, by rw [← HL1.out, HC1.out]; exact hown8, hn7.grown hgr8 zz7 (fun j e => (hown7.lt j e).1)⟩
      case measure => simp [intOf]; omega
    case neg =>
      obtain rfl : N = k := by omega
      rw [List.take_of_length_le (by rw [List.length_map, HN.out]; exact Nat.le_refl _), ← hE.out] at hown
      obtain ⟨g5, c5, e5, zg5, S5⟩ := ansS_row (AnsS.of_owns hown rfl) (by rw [HM.out]; omega)
      subst e5
      have hsg : Hid (∀ j, j < M → sgP (sAt (plE l (hs.map LoopT.l)) j).1 (sAt (plE l (hs.map LoopT.l)) j).2 = true) := fun j hj => plE_ok hv (sAt_mem (by rw [HM.out]; exact hj))
      have hmt : Hid (∀ i k, k < n → n ≤ i → i < M → meetP (sAt (plE l (hs.map LoopT.l)) i).1 (sAt (plE l (hs.map LoopT.l)) i).2 (sAt (plE l (hs.map LoopT.l)) k).1 (sAt (plE l (hs.map LoopT.l)) k).2 = false) := fun i k hk hi hi2 => plE_meet hv (by rw [o3']; exact hk) (by rw [o3']; exact hi) (by rw [HM.out]; exact hi2)
      have hnM : n ≤ M := by rw [← HM.out, hE.out, List.length_append, segsL_len]; omega
      have K5 := bw_trans K hnx
      have S2' := S2.below hnx zg2
      have zg2' : g2 < wr.heap.size := by omega
      rename World => wo
      rw [HM.out]
      clear hown A2 A3 hE hL hv HB hkl hokH ho1 J4 hD hPo o1 o2 o4 o5 o6 o7 hpos S2
      generalize plE l (hs.map LoopT.l) = ss at *
      go_wp2_with fail
      go_loopw [9] (fun i wr => ∃ q : Nat, q ≤ M ∧ i = .int .i64 q ∧ Below wo.heap.size wo wr) (fun i _ => M - (intOf i).toNat)
      case atStart => exact ⟨0, Nat.zero_le _, rfl, bw_refl _⟩
      case round =>
        obtain ⟨q, hq, rfl, hn2⟩ := hrel
        rename World => wi
        by_cases hqM : q < M
        case neg =>
          obtain rfl : M = q := by omega
          go_wp2_with fail
          go_ret
          exact ⟨rfl, bw_trans K5 hn2⟩
        case pos =>
          have q0 : (0 : Int) ≤ (q : Int) := Int.natCast_nonneg _
          have q1 : (q : Int) < (M : Int) := by omega
          have q2 : (q : Int) ≤ 24 := by omega
          obtain ⟨d0, d1, d2, d3⟩ := regrow4 ((S2'.below hn2 zg2') q (by rw [HM.out]; exact hqM))
          obtain ⟨f0, f1, f2, f3⟩ := regrow4 ((S5.below hn2 zg5) q (by rw [HM.out]; exact hqM))
          have sq := hsg.out q hqM
          go_wp2_with fail
          refine wp_region_quiet_below (by kernel_rfl) (by kernel_rfl) ?_
          repeat (first | go_big_quiet_step (fail))
          refine wpQuiet_nil ?_
          intro _ hw'
          obtain ⟨⟨dq, osq⟩, hw''⟩ := hw'
          subst hw''
          have J := below_regrown wi dq osq
          generalize grow (redrawn wi dq) osq = v5 at J ⊢
          have hn2' := bw_trans hn2 J
          have hSi := S2'.below hn2' zg2'
          have zgi : g2 < v5.heap.size := by have := hn2'.size; omega
          clear J d0 d1 d2 d3 f0 f1 f2 f3
          go_wp2_with fail
          go_loopw [10] (fun k wr => ∃ j : Nat, j ≤ n ∧ k = .int .i64 j ∧ Below v5.heap.size v5 wr) (fun k _ => n - (intOf k).toNat)
          case atStart => exact ⟨0, Nat.zero_le _, rfl, bw_refl _⟩
          case round =>
            obtain ⟨j, hj, rfl, hn3⟩ := hrel
            by_cases hjn : j < n
            case neg =>
              obtain rfl : n = j := by omega
              go_wp2_with fail
              go_roundw
              case rel => exact ⟨q + 1, by omega, by simp, bw_trans hn2' hn3⟩
              case measure => simp [intOf]; omega
            case pos =>
              have j0 : (0 : Int) ≤ (j : Int) := Int.natCast_nonneg _
              have j1 : (j : Int) < (n : Int) := by omega
              have j2 : (j : Int) < (M : Int) := by omega
              by_cases hge : n ≤ q
              · have hg1 : (n : Int) ≤ (q : Int) := by omega
                have hgd : decide ((n : Int) ≤ (q : Int)) = true := by simpa using hge
                have hgd2 : decide (n ≤ q) = true := by simpa using hge
                have sj := hsg.out j (by omega)
                have X1 : Hid (∀ w, Calls Try.prog 25 #[.agg #[.int .i64 (sAt ss q).1.1, .int .i64 (sAt ss q).1.2, .int .i64 (sAt ss q).2.1, .int .i64 (sAt ss q).2.2], .agg #[.int .i64 (sAt ss j).1.1, .int .i64 (sAt ss j).1.2, .int .i64 (sAt ss j).2.1, .int .i64 (sAt ss j).2.2]] w fun e w' => e = .returned (.bool false) ∧ Below w.heap.size w w') := fun w => by
                  have := meet_raw (sAt ss q).1 (sAt ss q).2 (sAt ss j).1 (sAt ss j).2 w; rwa [meetQ_of sq sj, hmt.out q j hjn hge hqM] at this
                obtain ⟨r0', r1', r2', r3'⟩ := regrow4 ((hSi.below hn3 zgi) q (by rw [HM.out]; exact hqM))
                obtain ⟨s0, s1, s2, s3⟩ := regrow4 ((hSi.below hn3 zgi) j (by rw [HM.out]; omega))
                go_wp2_with fail
                refine wp_region_quiet_below (by kernel_rfl) (by kernel_rfl) ?_
                repeat (first | go_big_quiet_step (first | (go_at_call 25; with_reducible exact Calls.regrown_of (X1.out _))))
                refine wpQuiet_nil ?_
                intro _ hw'
                obtain ⟨⟨dq, osq⟩, hw''⟩ := hw'
                subst hw''
                have J := below_regrown wr dq osq
                generalize grow (redrawn wr dq) osq = v9 at J ⊢
                go_wp2_with fail
                go_roundw
                case rel => exact ⟨j + 1, by omega, by simp, bw_trans hn3 J⟩
                case measure => simp [intOf]; omega
              · have hg1 : ¬ ((n : Int) ≤ (q : Int)) := by omega
                have hgd : decide ((n : Int) ≤ (q : Int)) = false := by simpa using hge
                have hgd2 : decide (n ≤ q) = false := by simpa using hge
                go_wp2_with fail
                refine wp_region_quiet_below (by kernel_rfl) (by kernel_rfl) ?_
                repeat (first | go_big_quiet_step (fail))
                refine wpQuiet_nil ?_
                intro _ hw'
                obtain ⟨⟨dq, osq⟩, hw''⟩ := hw'
                subst hw''
                have J := below_regrown wr dq osq
                generalize grow (redrawn wr dq) osq = v9 at J ⊢
                go_wp2_with fail
                go_roundw
                case rel => exact ⟨j + 1, by omega, by simp, bw_trans hn3 J⟩
                case measure => simp [intOf]; omega
end Go.Proofs.Ythedlopfjlnogaa
namespace Go.Proofs.Ythedlopfjlnogaa
open Go.ChangeShapes Go.WideShapes Go.ChangeAt Go.RowKit

theorem own : ownKnob Try.prog.godebug = none := by kernel_rfl
theorem laidOut : laidOutB Try.prog = true := by kernel_rfl
end Go.Proofs.Ythedlopfjlnogaa
namespace Go.Proofs.Ythedlopfjlnogaa
open Go.ChangeShapes Go.WideShapes Go.ChangeAt Go.RowKit Go.Joins
open Go.ChangeMaps (open_string shut_string)

set_option maxRecDepth 100000 in
theorem fnPlateEdges_lifted (os : Os) (started : os.Started) (H : Type) (enc : TypeId × Value → H) :
    ReturnsInHanded {} Try.checked os 7 .any (Rows.fnPlateEdgesSpec.pre6 enc Try.prog Try.f7 Rows.fnPlateEdgesRow.domain false) (Rows.fnPlateEdgesSpec.post enc Try.prog Try.f7 false true false false) := by
  refine returnsInHanded_of_change (C := Try.checked) own started (by kernel_rfl) Try.func7
    (ChangeSpec.witness6 (enc := enc) (C := Try.checked) false ⟨#[], #[.slice none 0 0], []⟩ 8 (by kernel_rfl) (by kernel_rfl) (by kernel_rfl) (by kernel_rfl)) ?_
  intro W base args ds gs before hval0 hW _ _
  have hval : ∀ (j : Nat) t v, Try.f7.params[j]? = some t → args[j]? = some v → Value.okWide Try.prog W .any base t v := hval0
  have hW' := hW
  obtain ⟨p, q, hA0, hV, rfl, hfz, hnd⟩ := hW
  have hA : DataW.TrodAll enc Try.prog W 0 (fun _ => true) true Try.f7.params.toList args.toList ds p := hA0
  rw [Try.params7] at hA hval
  obtain ⟨v0, vs0, d0, ds0, p0, q0, hargs, rfl, rfl, h0, r0⟩ := trodAll_cons hA
  obtain ⟨rfl, rfl, rfl⟩ := trodAll_nil r0
  obtain rfl : args = #[v0] := by cases args; simp_all
  obtain ⟨rfl, rfl⟩ := trodVars_none hV
  have k0 := h0
  have lt0 : ∀ x ∈ p0, x.block < W.heap.size := by obtain ⟨m, hm⟩ := k0; exact DataW.trod_lt m _ _ _ hm
  obtain ⟨a0, len0, cap0, rfl⟩ := okWide_slice Try.underlying22 (hval 0 22 v0 rfl rfl)
  obtain ⟨z0, w0⟩ : ∃ zs, IsRow .u8 W a0 len0 cap0 zs := by
    obtain ⟨fuel, hf⟩ := h0
    rcases open_ints Try.underlying22 Try.underlying5 (by kernel_rfl) hf with ⟨hcs, _⟩ | ⟨x, l, c, zs, hcs, _, hl, hm, hz, _, hcell, hwz⟩
    · simp [Value.cells] at hcs
      obtain ⟨rfl, rfl, rfl⟩ := hcs
      exact ⟨[], .inl ⟨rfl, rfl, rfl, rfl⟩⟩
    · simp [Value.cells] at hcs
      obtain ⟨rfl, rfl, rfl⟩ := hcs
      exact ⟨zs, .inr ⟨_, rfl, hl, hm, by simpa using hz, hcell, hwz⟩⟩
  clear hA0 hval0
  refine (plateEdges_walk W a0 len0 cap0 z0 w0).mono fun e W' ⟨he, bel⟩ => ?_
  subst he
  exact ⟨_, rfl, _, _, _, [], _, [], hW', trodAll_mk1 (shut_bool Try.underlying4 _), (trodAll_cons_mk (Below.trod laidOut (by kernel_rfl) (of_decide_eq_true (by kernel_rfl)) k0 bel lt0) trodAll_mk0), rfl, bel.frame _, fun h => by cases h⟩

theorem fnPlateEdges_said : Rows.FnPlateEdgesSaid :=
  OpenClaim.holds_of_wide 7 Try.f7 rfl rfl rfl rfl rfl rfl rfl ⟨rfl, rfl, rfl, rfl, rfl⟩ rfl rfl rfl rfl rfl (by kernel_rfl) Try.func7 (by kernel_rfl)
    (of_decide_eq_true (by kernel_rfl)) (by unfold Func.isWrapper; first | (rw [if_pos (by decide +kernel)]; kernel_rfl) | (rw [if_neg (by decide +kernel)]; exact ⟨rfl, rfl⟩))
    (fun os started H enc _ => fnPlateEdges_lifted os started H enc)

end Go.Proofs.Ythedlopfjlnogaa
