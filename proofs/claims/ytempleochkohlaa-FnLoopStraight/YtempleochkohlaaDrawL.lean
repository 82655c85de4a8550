/-
  OUR OWN TEXT. What the laws of loops draw, by contract.
-/
import Derived.Test.YtempleochkohlaaDrawLoop
namespace Go.Proofs.Ytempleochkohlaa
open Go.RowKit

theorem boxes1' (w : World) (o : Obj) : ∃ W, W = w.alloc o ∧ Below w.heap.size w W ∧ W.heap[w.heap.size]? = some o := ⟨_, rfl, (by repeat (first | exact bw_refl _ | assumption | apply bw_drewN | apply bw_drew | apply bw_alloc | refine bw_set ?_ (by simp) _)), heap_new _ _⟩
/-- A loop that was drawn: points of our own memory. -/
def Loopy (base : Nat) (w' : World) (v : Value) (l : List P2) (n : Nat) : Prop :=
  ∃ (g c : Nat), v = .slice (some ⟨g, 0, none⟩) n c ∧ 3 ≤ n ∧ n ≤ 7 ∧ l.length = n ∧ n ≤ c ∧ c ≤ maxLen ∧ base ≤ g ∧ PtBlk w' g c l n
theorem Loopy.below {base : Nat} {w w' : World} {v : Value} {l : List P2} {n : Nat} (h : Loopy base w v l n) (J : Below w.heap.size w w') : Loopy base w' v l n := by
  obtain ⟨g, c, e, h1, h2, h3, h4, h5, h6, h7⟩ := h
  exact ⟨g, c, e, h1, h2, h3, h4, h5, h6, h7.below J⟩
theorem PtBlk.pts' {W : World} {g c n : Nat} {l : List P2} (h : PtBlk W g c l n) (hl : l.length = n) : Pts W.heap.size W (some ⟨g, 0, none⟩) n l := by
  have hg := h.lt
  obtain ⟨cur, h, hs, hc⟩ := h
  refine ⟨hl, .inr ⟨g, 0, rfl, hg, fun j hj => ?_⟩⟩
  rw [Nat.zero_add, row_cell h, row_cell h]; exact hc j hj
set_option maxHeartbeats 1000000 in
theorem drawSize_any {a : Option Addr} {len0 cap : Nat} {zs : List Int} (w0 w : World) (h : IsRow .u8 w0 a len0 cap zs) (hb : Below w0.heap.size w0 w) :
    Calls Try.prog 31 #[.slice a len0 cap] w fun e w' => ∃ (v : Value) (l : List P2) (n : Nat), e = .returned v ∧ Loopy w.heap.size w' v l n ∧ Below w.heap.size w w' := by
  go_enter Try.func31, Try.ntmps31
  go_wp2_with fail
  refine (open_rd w0 _ h hb).mono ?_
  rintro e w1 ⟨len, rfl, R, hb1⟩
  have z1 := hb1.size
  have zr := R.lt
  go_wp2_with fail
  refine (loop_any 0 a len cap _ _ (by omega) R).mono ?_
  clear R
  rintro e w2 ⟨g, n, c, l, k', rfl, n3, n7, hl, hnc, hcm, hbg, hbl, hk', R, O⟩
  have BB := hb1.trans (O.below' (B := w.heap.size) (Nat.le_refl _) (by omega))
  go_wp2_with fail
  go_ret
  exact ⟨_, l, n, rfl, ⟨g, c, rfl, n3, n7, hl, hnc, hcm, by omega, hbl⟩, BB⟩
set_option maxHeartbeats 1000000 in
theorem drawOk_any {a : Option Addr} {len0 cap : Nat} {zs : List Int} (w0 w : World) (h : IsRow .u8 w0 a len0 cap zs) (hb : Below w0.heap.size w0 w) :
    Calls Try.prog 18 #[.slice a len0 cap] w fun e w' => ∃ (v : Value) (l : List P2) (n : Nat), e = .returned v ∧ Loopy w.heap.size w' v l n ∧ Below w.heap.size w w' := by
  go_enter Try.func18, Try.ntmps18
  go_wp2_with fail
  refine (open_rd w0 _ h hb).mono ?_
  rintro e w1 ⟨len, rfl, R, hb1⟩
  have z1 := hb1.size
  have zr := R.lt
  go_wp2_with fail
  refine (loop_any 0 a len cap _ _ (by omega) R).mono ?_
  clear R
  rintro e w2 ⟨g, n, c, l, k', rfl, n3, n7, hl, hnc, hcm, hbg, hbl, hk', R, P⟩
  go_wp2_with fail
  refine (pick_rd 4 k' a len cap _ _ (by omega) (by omega) R).mono ?_
  clear R
  rintro e w3 ⟨q, rfl, qa, qb, R, O⟩
  replace P := P.trans O
  replace hbl := blk_only hbl O (by omega)
  clear O
  by_cases hq : q = 0
  · subst hq
    go_wp2_with fail
    refine (pick_rd (n : Int) (k' + 1) a len cap _ _ (by omega) (by omega) R).mono ?_
    clear R
    rintro e w4 ⟨j, rfl, ja, jb, R, O⟩
    obtain ⟨j, rfl⟩ := Int.eq_ofNat_of_zero_le ja
    replace P := P.trans O
    replace hbl := blk_only hbl O (by omega)
    clear O
    go_wp2_with fail
    refine (l71Pt_any (k' + 1 + 1) a len cap _ _ (by omega) R).mono ?_
    clear R
    rintro e w5 ⟨s, t, k5, rfl, _, hk5, R, O⟩
    replace P := P.trans O
    replace hbl := blk_only hbl O (by omega)
    clear O
    have hj : j < n := by omega
    obtain ⟨⟨s0, r0⟩, y0⟩ := hbl.room (i := j * 2) (by omega)
    obtain ⟨⟨s1, r1⟩, y1⟩ := hbl.room (i := j * 2 + 1) (by omega)
    have BB := hb1.trans (P.below' (B := w.heap.size) (Nat.le_refl _) (by omega))
    go_wp2_with fail
    go_ret
    exact ⟨_, l.set j (s, t), n, rfl, ⟨g, c, rfl, n3, n7, by simpa using hl, hnc, hcm, by omega, blk_set hbl hl hnc hj⟩, (BB.setCell (p := ⟨g, j * 2, none⟩) (by show _ ≤ g; omega) _).setCell (p := ⟨g, j * 2 + 1, none⟩) (by show _ ≤ g; omega) _⟩
  · have e0 : (q == 0) = false := by simpa using hq
    have BB := hb1.trans (P.below' (B := w.heap.size) (Nat.le_refl _) (by omega))
    go_wp2_with fail
    go_ret
    exact ⟨_, l, n, rfl, ⟨g, c, rfl, n3, n7, hl, hnc, hcm, by omega, hbl⟩, BB⟩
set_option maxHeartbeats 1000000 in
theorem drawIn_any {a : Option Addr} {len0 cap : Nat} {zs : List Int} (w0 w : World) (h : IsRow .u8 w0 a len0 cap zs) (hb : Below w0.heap.size w0 w) :
    Calls Try.prog 21 #[.slice a len0 cap] w fun e w' => ∃ (v : Value) (l : List P2) (n : Nat) (x y : Int), e = .returned (.tuple #[v, .agg #[.int .i64 x, .int .i64 y]]) ∧ PB x y ∧ Loopy w.heap.size w' v l n ∧ Below w.heap.size w w' := by
  go_enter Try.func21, Try.ntmps21
  go_wp2_with fail
  refine (open_rd w0 _ h (bw_alloc hb _)).mono ?_
  rintro e w1 ⟨len, rfl, R, hb1⟩
  have B0 := keep hb1 (heap_new _ _)
  have H := bw_trans (bw_alloc (bw_refl w) _) hb1
  simp only [size_new] at R
  have z1 := H.size
  have zr := R.lt
  clear hb1
  go_wp2_with fail
  refine (loop_any 0 a len cap _ _ (by omega) R).mono ?_
  clear R
  rintro e w2 ⟨g, n, c, l, k', rfl, n3, n7, hl, hnc, hcm, hbg, hbl, hk', R, P⟩
  replace B0 := keepO P B0 (by omega)
  go_wp2_with fail
  refine (l71Pt_any k' a len cap _ _ (by omega) R).mono ?_
  clear R
  rintro e w3 ⟨x, y, k3, rfl, hPB, hk3, R, O⟩
  replace B0 := keepO O B0 (by omega)
  replace P := P.trans O
  replace hbl := blk_only hbl O (by omega)
  clear O
  obtain ⟨a0, a1, af0, af1⟩ := blk2 B0
  have BB := H.trans (P.below' (B := w.heap.size) (by omega) (by omega))
  go_wp2_with fail
  refine bodyPost_ret (v := .tuple #[.slice (some ⟨g, 0, none⟩) n c, .agg #[.int .i64 x, .int .i64 y]]) (by simp [results, Try.results21, go_sem, a0, a1]) rfl ⟨_, l, n, x, y, rfl, hPB, ⟨g, c, rfl, n3, n7, hl, hnc, hcm, by omega, ?_⟩, (BB.setCell (p := ⟨w.heap.size, 0, none⟩) (Nat.le_refl _) _).setCell (p := ⟨w.heap.size, 1, none⟩) (Nat.le_refl _) _⟩
  obtain ⟨cur, hg, hs⟩ := hbl
  exact ⟨cur, set_oth (set_oth hg (by omega)) (by omega), hs⟩
end Go.Proofs.Ytempleochkohlaa
