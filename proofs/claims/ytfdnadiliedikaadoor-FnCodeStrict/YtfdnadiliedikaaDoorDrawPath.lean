/-
  OUR OWN TEXT. The specification's drawn path, by contract: whatever the bytes are, points of our own memory are handed back; nothing that was there is written.
-/
import Derived.Test.YtfdnadiliedikaaDoorDrawCode
import Derived.Test.YtfdnadiliedikaaDoorTurn
namespace Go.Proofs.YtfdnadiliedikaaDoor
open Go.RowKit Go.Sort

def AtC (b d : Nat) (v : Value) (w : World) : Prop := w.cell? ⟨b, d, none⟩ = some v
theorem anyH_grow {P : Program} {md : Region.Mode} {ops : Array Oper} {Q : Exit → Act → World → Prop} {S S' : World → Prop} (h : ∀ w, S' w → S w) : ∀ (fuel : Nat) (listed : Array Bool) (a : Act) (w : World), wpAnyH P md ops Q S' fuel listed a w → wpAnyH P md ops Q S fuel listed a w
  | 0, _, _, _, hh => hh
  | fuel + 1, _, _, _, hh => ⟨hh.1, fun i hi => wpOp_mono (fun a' w' h' => ⟨h w' h'.1, anyH_grow h fuel _ a' w' h'.2⟩) (hh.2 i hi)⟩
theorem cellAl {W : World} {o : Obj} {a : Addr} {v : Value} (h : W.cell? a = some v) : (W.alloc o).cell? a = some v := cellB (bw_alloc (bw_refl _) o) h
theorem blkAl {W : World} {o p : Obj} {b : Nat} (h : W.heap[b]? = some o) : (W.alloc p).heap[b]? = some o := (heap_old _ _ (blk_lt h)).trans h
theorem newBlk {W : World} {o : Obj} {B : Nat} (h : W.heap.size = B) : (W.alloc o).heap[B]? = some o := by rw [← h]; exact heap_new W o
theorem newArr {W : World} {cur : Array Value} {t : TypeId} {B D : Nat} {v : Value} (h : W.heap.size = B) (hv : cur[D]? = some v) : (W.alloc (.cells cur t)).cell? ⟨B, D, none⟩ = some v := by
  rw [row_cell (newBlk (o := .cells cur t) h)]
  exact hv
theorem setP2 {w : World} {b : Nat} {x0 x1 u0 u1 : Value} {t : TypeId} (h : w.heap[b]? = some (.cells #[x0, x1] t (0, 0))) : ((w.setCell ⟨b, 0, none⟩ u0).setCell ⟨b, 1, none⟩ u1).heap[b]? = some (.cells #[u0, u1] t (0, 0)) := by
  rw [setCell_row (setCell_row h _) _]
  rfl
theorem end_gen {K : Act → World → Prop} {a : Act} {W : World} (P : World → Prop) (hW : P W) (h : ∀ Wz, P Wz → K a Wz) : K a W := h W hW
theorem dirX (D : Nat) (h : D < 4) : ∃ f : Int, (#[Value.int .i64 1, .int .i64 0, .int .i64 (-1), .int .i64 0] : Array Value)[D]? = some (.int .i64 f) ∧ -1 ≤ f ∧ f ≤ 1 := by
  have : D = 0 ∨ D = 1 ∨ D = 2 ∨ D = 3 := by omega
  rcases this with rfl | rfl | rfl | rfl
  · exact ⟨1, rfl, by omega, by omega⟩
  · exact ⟨0, rfl, by omega, by omega⟩
  · exact ⟨-1, rfl, by omega, by omega⟩
  · exact ⟨0, rfl, by omega, by omega⟩
theorem dirY (D : Nat) (h : D < 4) : ∃ f : Int, (#[Value.int .i64 0, .int .i64 1, .int .i64 0, .int .i64 (-1)] : Array Value)[D]? = some (.int .i64 f) ∧ -1 ≤ f ∧ f ≤ 1 := by
  have : D = 0 ∨ D = 1 ∨ D = 2 ∨ D = 3 := by omega
  rcases this with rfl | rfl | rfl | rfl
  · exact ⟨0, rfl, by omega, by omega⟩
  · exact ⟨1, rfl, by omega, by omega⟩
  · exact ⟨0, rfl, by omega, by omega⟩
  · exact ⟨-1, rfl, by omega, by omega⟩
set_option maxRecDepth 100000 in
set_option maxHeartbeats 8000000 in
theorem l72Path_rd (k : Nat) (a : Option Addr) (len cap r : Nat) (w1 : World) (hk : k ≤ 1000) (R : Rd w1 r k a len cap) :
    Calls Tryd.prog 28 #[.pointer (some ⟨r, 0, none⟩)] w1 fun e w' => ∃ (g c : Nat) (l : List P2), e = .returned (.slice (some ⟨g, 0, none⟩) l.length c) ∧ l.length ≤ 20 ∧ (∀ p ∈ l, PB p.1 p.2) ∧ l.length ≤ c ∧ PtBlk w' g c l l.length ∧ Only r w1 w' ∧ ∃ k', k' ≤ 3000 ∧ Rd w' r k' a len cap := by
  obtain ⟨i0, hi0, hz0, hz1, hz2⟩ := info_parts Tryd.infoPt
  have hmx : Tryd.prog.follows .mixedOrders = true := by kernel_rfl
  have hlt := R.lt
  have P := Only.refl r w1
  go_enter Tryd.func28, Tryd.ntmps28
  go_wp2_with fail
  refine (pick_rd 10 k a len cap _ _ (by omega) (by omega) R).mono ?_
  clear R
  rintro e w2 ⟨x, rfl, xa, xb, R, O⟩
  replace P := P.trans O
  clear O
  go_wp2_with fail
  refine (pick_rd 10 (k + 1) a len cap _ _ (by omega) (by omega) R).mono ?_
  clear R
  rintro e w3 ⟨y, rfl, ya, yb, R, O⟩
  replace P := P.trans O
  clear O
  obtain ⟨W, hW, BW, T4, T5⟩ := boxes2 w3 (.cells #[.int .i64 x, .int .i64 y] 42) (.cells #[.int .i64 x, .int .i64 y] 42)
  have zP := P.size
  have zW : W.heap.size = w3.heap.size + 1 + 1 := by rw [hW]; simp
  have own0 : W.ownsRow (w3.heap.size + 1) 42 2 (.slice (some ⟨w3.heap.size + 1, 0, none⟩) 1 1) 1 (ptCells [(x, y)]) := own_lit T5 (Nat.le_refl _) rfl (Nat.le_refl _) (by simp [maxLen]) rfl rfl
  have RW : Rd W r (k + 1 + 1) a len cap := by rw [hW]; exact (R.alloc _).alloc _
  have PW : Only r w1 W := by rw [hW]; exact (P.alloc _).alloc _
  have hpk := pick_rd 4 (k + 1 + 1) a len cap _ _ (by omega) (by omega) RW
  rw [hW] at hpk
  go_wp2_with fail
  refine hpk.mono ?_
  rw [← hW]
  clear hW R RW hpk P T5
  rintro e w5 ⟨d0, rfl, da, db, R, O⟩
  generalize hb4 : w3.heap.size = b4 at *
  have T4' := keepO O T4 (by omega)
  have own5 := own0.kept (w' := w5) (row := some r) ⟨O.os, O.tape, O.output, O.size, fun j hj hne => O.block j (fun e => hne (by rw [e])) hj⟩ (.inr (fun e => by have e' : b4 + 1 = r := Option.some.inj e; omega))
  have P := PW.trans O
  have z5 := O.size
  clear own0 PW T4 BW O
  go_wp2_with fail
  refine (pick_rd 16 (k + 1 + 1 + 1) a len cap _ _ (by omega) (by omega) R).mono ?_
  clear R
  rintro e w6 ⟨nn, rfl, na, nb, R, O⟩
  obtain ⟨n0, rfl⟩ := Int.eq_ofNat_of_zero_le na
  replace T4' := keepO O T4' (by omega)
  have own6 := own5.kept (w' := w6) (row := some r) ⟨O.os, O.tape, O.output, O.size, fun j hj hne => O.block j (fun e => hne (by rw [e])) hj⟩ (.inr (fun e => by have e' : b4 + 1 = r := Option.some.inj e; omega))
  replace P := P.trans O
  have z6 := O.size
  clear own5 O
  go_wp2_with fail
  go_loopw [4, 5, 6] (fun o dv i wr => ∃ (l : List P2) (ux uy : Int) (p m D : Nat), dv = .int .i64 D ∧ D < 4 ∧ i = .int .i64 m ∧ (∀ p ∈ l, PB p.1 p.2) ∧ 1 ≤ l.length ∧ l.length + m ≤ 16 ∧ (0 ≤ ux ∧ ux ≤ 9 ∧ 0 ≤ uy ∧ uy ≤ 9) ∧ wr.heap[b4]? = some (.cells #[.int .i64 ux, .int .i64 uy] 42) ∧ wr.ownsRow (b4 + 1) 42 2 o l.length (ptCells l) ∧ p + 10 * m ≤ 2000 ∧ Rd wr r p a len cap ∧ Only r w1 wr ∧ b4 + 2 ≤ wr.heap.size) (fun _ _ i _ => (intOf i).toNat)
  case atStart =>
    obtain ⟨D0, rfl⟩ := Int.eq_ofNat_of_zero_le da
    exact ⟨[(x, y)], x, y, k + 1 + 1 + 1 + 1, n0, D0, rfl, by omega, rfl, pb_one (by omega) (by omega) (by omega) (by omega), Nat.le_refl _, by simp; omega, ⟨by omega, by omega, by omega, by omega⟩, T4', own6, by omega, R, P, by omega⟩
  case round =>
    obtain ⟨l, ux, uy, p, m, D, rfl, hD, rfl, hPB, hl1, hlm, ⟨u0, u1, u2, u3⟩, B4, hown, hp, R, P, hzr⟩ := hrel
    have hzb : r < b4 ∧ w1.heap.size ≤ b4 := ⟨by omega, by omega⟩
    by_cases hm : m = 0
    case pos =>
      subst hm
      have zP := P.size
      go_wp2_with fail
      refine (pick_rd 16 p a len cap _ _ (by omega) (by omega) R).mono ?_
      clear R
      rintro e w7 ⟨v2, rfl, va, vb, R, O6⟩
      have own7 := hown.kept (w' := w7) (row := some r) ⟨O6.os, O6.tape, O6.output, O6.size, fun j hj hne => O6.block j (fun e => hne (by rw [e])) hj⟩ (by rcases Classical.em (u4.ownBlock = none) with h | h; exact .inl h; exact .inr (fun e => by have := (hown.lt _ e).1; omega))
      have P7 := P.trans O6
      have z7 := O6.size
      clear hown P O6
      by_cases h0 : v2 = 0
      · subst h0
        go_wp2_with fail
        refine (l71Pt_any (p + 1) a len cap _ _ (by omega) R).mono ?_
        rintro e w8 ⟨px, py, p7, rfl, hPx, hp7, R7, O7⟩
        have own8 := own7.kept (w' := w8) (row := some r) ⟨O7.os, O7.tape, O7.output, O7.size, fun j hj hne => O7.block j (fun e => hne (by rw [e])) hj⟩ (by rcases Classical.em (u4.ownBlock = none) with h | h; exact .inl h; exact .inr (fun e => by have := (own7.lt _ e).1; omega))
        have P8 := P7.trans O7
        have z8 := O7.size
        obtain ⟨g5, c5, rfl, _, _⟩ := own8.form (by omega)
        have hg5 := (own8.lt g5 rfl).1
        go_wp2_with (at_builtin; refine wpList_append_lies _ rfl _ _ _ rfl (b4 + 1) 42 i0 _ 2 16 Tryd.underlying23 hi0 hz0 hz1 hz2 rfl (by omega) _ _ _ rfl (own8.alloc _) ⟨w8.heap.size, 0, none⟩ 1 1 [.int .i64 px, .int .i64 py] rfl rfl (World.news_of_block (cs := #[.int .i64 px, .int .i64 py]) (t := 42) (fr := (0, 0)) (heap_alloc_new w8 _)) (by simp [Value.oneCell']) (by omega) (by simp [maxLen]; omega) (by omega) (by simp; omega) (w8.heap.size + 1) (by simp) ?_; intro gg cap' w9 hown1 hgrow hat hlt1)
        have P9 : Only r w1 w9 := (P8.alloc (.cells #[.int .i64 px, .int .i64 py] 42)).grown hgrow (fun j e => by have e' : g5 = j := Option.some.inj e; omega)
        have R9 : Rd _ r p7 a len cap := (R7.alloc (.cells #[.int .i64 px, .int .i64 py] 42)).grown hgrow (fun j e => by have e' : g5 = j := Option.some.inj e; omega)
        rw [← ptCells_snoc l (px, py)] at hown1
        have hl2 : (l ++ [(px, py)]).length = l.length + 1 := by rw [List.length_append]; rfl
        obtain ⟨hb8, hb9, _, _⟩ := blk_of_own hown1 hl2
        go_ret
        refine ⟨gg, cap', l ++ [(px, py)], ?_, by omega, pb_snoc hPB hPx, by omega, by rw [hl2]; exact hb8, P9, p7, by omega, R9⟩
        rw [hl2]
        rfl
      · have y1 : (v2 == 0) = false := by simpa using h0
        have y2 : (v2 = 0) = False := by simpa using h0
        clear h0
        obtain ⟨g5, c5, rfl, _, _⟩ := own7.form (by omega)
        obtain ⟨hb8, hb9, _, _⟩ := blk_of_own own7 rfl
        by_cases h1 : v2 = 1
        · subst h1
          go_wp2_with fail
          go_ret
          obtain ⟨cur, hb8, hs8, _⟩ := hb8
          exact ⟨g5, c5, [], rfl, by simp, by simp, by simp, ⟨cur, hb8, hs8, fun j hj => by simp at hj⟩, P7, _, by omega, R⟩
        · have y3 : (v2 == 1) = false := by simpa using h1
          have y4 : (v2 = 1) = False := by simpa using h1
          clear h1
          go_wp2_with fail
          go_ret
          exact ⟨g5, c5, l, rfl, by omega, hPB, by omega, hb8, P7, _, by omega, R⟩
    case neg =>
      obtain ⟨m', rfl⟩ : ∃ m', m = m' + 1 := ⟨m - 1, by omega⟩
      have i1 : (0 : Int) < (m' : Int) + 1 := by omega
      have k1 : IntKind.i64.wrap ((m' : Int)) = (m' : Int) := wrap_small (by omega) (by omega)
      go_wp2_with fail
      refine (pick_rd 3 p a len cap _ _ (by omega) (by omega) R).mono ?_
      clear R
      rintro e w7 ⟨v2, rfl, va, vb, R, O7⟩
      replace B4 := keepO O7 B4 (by omega)
      have own7 := hown.kept (w' := w7) (row := some r) ⟨O7.os, O7.tape, O7.output, O7.size, fun j hj hne => O7.block j (fun e => hne (by rw [e])) hj⟩ (by rcases Classical.em (u4.ownBlock = none) with h | h; exact .inl h; exact .inr (fun e => by have := (hown.lt _ e).1; omega))
      have P7 := P.trans O7
      have z7 := O7.size
      clear hown P
      by_cases hv : v2 = 0
      · subst hv
        go_wp2_with fail
        refine (pick_rd 4 (p + 1) a len cap _ _ (by omega) (by omega) R).mono ?_
        clear R
        rintro e w8 ⟨v3, rfl, vc, vd, R, O8⟩
        replace B4 := keepO O8 B4 (by omega)
        have own8 := own7.kept (w' := w8) (row := some r) ⟨O8.os, O8.tape, O8.output, O8.size, fun j hj hne => O8.block j (fun e => hne (by rw [e])) hj⟩ (by rcases Classical.em (u4.ownBlock = none) with h | h; exact .inl h; exact .inr (fun e => by have := (own7.lt _ e).1; omega))
        have P8 := P7.trans O8
        have z8 := O8.size
        clear own7 P7 hD
        obtain ⟨D, rfl⟩ := Int.eq_ofNat_of_zero_le vc
        have hD : D < 4 := by omega
        obtain ⟨Y, hY⟩ : ∃ Y, Y = w8 := ⟨_, rfl⟩
        rw [← hY] at B4 own8 P8 z8 R
        go_wp2_with fail
        rw [← hY]
        have hp2 : p + 1 + 1 + 10 * m' ≤ 1995 := by omega
        obtain ⟨pq, hpq⟩ : ∃ pq, pq = p + 1 + 1 := ⟨_, rfl⟩
        rw [← hpq] at R hp2
        have zY : b4 + 2 ≤ Y.heap.size := by omega
        clear hY O8 hpq z8 z7 vc vd
        obtain ⟨f1, h1, b1⟩ := dirX D hD
        obtain ⟨f2, h2, b2⟩ := dirY D hD
        obtain ⟨c0, c1⟩ := blk_2 B4
        have k2 : IntKind.i64.wrap (ux + f1) = ux + f1 := wrap_small (by omega) (by omega)
        have k3 : IntKind.i64.wrap (uy + f2) = uy + f2 := wrap_small (by omega) (by omega)
        have i2 : (0 : Int) ≤ (D : Int) := Int.natCast_nonneg _
        have i3 : (D : Int) < 4 := by omega
        have hS0 : (fun w' : World => (AtC b4 0 (.int .i64 ux) w' ∧ AtC b4 1 (.int .i64 uy) w')) Y := ⟨c0, c1⟩
        refine wp_region_held (S := fun w' : World => (AtC b4 0 (.int .i64 ux) w' ∧ AtC b4 1 (.int .i64 uy) w')) hmx ?_
        refine wpAnyH_take (i := 0) (v := .pointer (some ⟨b4, 0, none⟩)) rfl (by kernel_rfl) (by kernel_rfl) (by kernel_rfl) (fun _ _ _ h => h) (Or.inl ⟨by rfl, by rintro w' ⟨s1, s2⟩; unfold AtC at s1 s2; go_simp⟩) hS0 ?_
        refine wpAnyH_take (i := 1) (v := .int .i64 ux) rfl (by kernel_rfl) (by kernel_rfl) (by kernel_rfl) (fun _ _ _ h => h) (Or.inl ⟨by rfl, by rintro w' ⟨s1, s2⟩; unfold AtC at s1 s2; go_simp⟩) hS0 ?_
        refine wpAnyH_take (i := 3) (v := .int .i64 (D : Int)) rfl (by kernel_rfl) (by kernel_rfl) (by kernel_rfl) (fun _ _ _ h => h) (Or.inl ⟨by rfl, by rintro w' ⟨s1, s2⟩; unfold AtC at s1 s2; go_simp⟩) hS0 ?_
        refine wpAnyH_take (i := 7) (v := .pointer (some ⟨b4, 1, none⟩)) rfl (by kernel_rfl) (by kernel_rfl) (by kernel_rfl) (fun _ _ _ h => h) (Or.inl ⟨by rfl, by rintro w' ⟨s1, s2⟩; unfold AtC at s1 s2; go_simp⟩) hS0 ?_
        refine wpAnyH_take (i := 8) (v := .int .i64 uy) rfl (by kernel_rfl) (by kernel_rfl) (by kernel_rfl) (fun _ _ _ h => h) (Or.inl ⟨by rfl, by rintro w' ⟨s1, s2⟩; unfold AtC at s1 s2; go_simp⟩) hS0 ?_
        refine wpAnyH_take (i := 10) (v := .int .i64 (D : Int)) rfl (by kernel_rfl) (by kernel_rfl) (by kernel_rfl) (fun _ _ _ h => h) (Or.inl ⟨by rfl, by rintro w' ⟨s1, s2⟩; unfold AtC at s1 s2; go_simp⟩) hS0 ?_
        refine wpAnyH_all (rs := [2, 9, 15]) (by kernel_rfl) (by simp) ?_
        intro i hi
        have hi' : i = 2 ∨ i = 9 ∨ i = 15 := by simpa using hi
        rcases hi' with rfl | rfl | rfl
        · skip
          refine wpOp_now rfl (by rfl) ?_
          go_simp
          have hS1' : (fun w' : World => (AtC b4 0 (.int .i64 ux) w' ∧ AtC b4 1 (.int .i64 uy) w')) (Y.alloc (.cells #[.int .i64 1, .int .i64 0, .int .i64 (-1), .int .i64 0] 3)) := ⟨cellAl (hS0.1), cellAl (hS0.2)⟩
          first | refine ⟨hS1', ?_⟩ | refine ⟨hS1'.1, hS1'.2, ?_⟩ | skip
          have hS1 : (fun w' : World => ((AtC b4 0 (.int .i64 ux) w' ∧ AtC b4 1 (.int .i64 uy) w') ∧ AtC (Y.heap.size) D (.int .i64 f1) w')) (Y.alloc (.cells #[.int .i64 1, .int .i64 0, .int .i64 (-1), .int .i64 0] 3)) := ⟨hS1', newArr (by simp) h1⟩
          refine anyH_grow (S' := fun w' : World => ((AtC b4 0 (.int .i64 ux) w' ∧ AtC b4 1 (.int .i64 uy) w') ∧ AtC (Y.heap.size) D (.int .i64 f1) w')) (fun _ h => h.1) _ _ _ _ ?_
          refine wpAnyH_take (i := 4) (v := .pointer (some ⟨Y.heap.size, D, none⟩)) rfl (by kernel_rfl) (by kernel_rfl) (by kernel_rfl) (fun _ _ _ h => h) (Or.inl ⟨by rfl, by rintro w' ⟨⟨s1, s2⟩, t1⟩; unfold AtC at s1 s2 t1; go_simp⟩) hS1 ?_
          refine wpAnyH_take (i := 5) (v := .int .i64 f1) rfl (by kernel_rfl) (by kernel_rfl) (by kernel_rfl) (fun _ _ _ h => h) (Or.inl ⟨by rfl, by rintro w' ⟨⟨s1, s2⟩, t1⟩; unfold AtC at s1 s2 t1; go_simp⟩) hS1 ?_
          refine wpAnyH_take (i := 6) (v := .int .i64 (ux + f1)) rfl (by kernel_rfl) (by kernel_rfl) (by kernel_rfl) (fun _ _ _ h => h) (Or.inl ⟨by rfl, by rintro w' ⟨⟨s1, s2⟩, t1⟩; unfold AtC at s1 s2 t1; go_simp⟩) hS1 ?_
          refine wpAnyH_all (rs := [9, 15]) (by kernel_rfl) (by simp) ?_
          intro i hi
          have hi' : i = 9 ∨ i = 15 := by simpa using hi
          rcases hi' with rfl | rfl
          · skip
            refine wpOp_now rfl (by rfl) ?_
            go_simp
            have hS2' : (fun w' : World => ((AtC b4 0 (.int .i64 ux) w' ∧ AtC b4 1 (.int .i64 uy) w') ∧ AtC (Y.heap.size) D (.int .i64 f1) w')) ((Y.alloc (.cells #[.int .i64 1, .int .i64 0, .int .i64 (-1), .int .i64 0] 3)).alloc (.cells #[.int .i64 0, .int .i64 1, .int .i64 0, .int .i64 (-1)] 3)) := ⟨⟨cellAl (hS1.1.1), cellAl (hS1.1.2)⟩, cellAl (hS1.2)⟩
            first | refine ⟨hS2', ?_⟩ | refine ⟨hS2'.1.1, hS2'.1.2, hS2'.2, ?_⟩ | skip
            have hS2 : (fun w' : World => (((AtC b4 0 (.int .i64 ux) w' ∧ AtC b4 1 (.int .i64 uy) w') ∧ AtC (Y.heap.size) D (.int .i64 f1) w') ∧ AtC (Y.heap.size + 1) D (.int .i64 f2) w')) ((Y.alloc (.cells #[.int .i64 1, .int .i64 0, .int .i64 (-1), .int .i64 0] 3)).alloc (.cells #[.int .i64 0, .int .i64 1, .int .i64 0, .int .i64 (-1)] 3)) := ⟨hS2', newArr (by simp) h2⟩
            refine anyH_grow (S' := fun w' : World => (((AtC b4 0 (.int .i64 ux) w' ∧ AtC b4 1 (.int .i64 uy) w') ∧ AtC (Y.heap.size) D (.int .i64 f1) w') ∧ AtC (Y.heap.size + 1) D (.int .i64 f2) w')) (fun _ h => h.1) _ _ _ _ ?_
            refine wpAnyH_take (i := 11) (v := .pointer (some ⟨Y.heap.size + 1, D, none⟩)) rfl (by kernel_rfl) (by kernel_rfl) (by kernel_rfl) (fun _ _ _ h => h) (Or.inl ⟨by rfl, by rintro w' ⟨⟨⟨s1, s2⟩, t1⟩, t2⟩; unfold AtC at s1 s2 t1 t2; go_simp⟩) hS2 ?_
            refine wpAnyH_take (i := 12) (v := .int .i64 f2) rfl (by kernel_rfl) (by kernel_rfl) (by kernel_rfl) (fun _ _ _ h => h) (Or.inl ⟨by rfl, by rintro w' ⟨⟨⟨s1, s2⟩, t1⟩, t2⟩; unfold AtC at s1 s2 t1 t2; go_simp⟩) hS2 ?_
            refine wpAnyH_take (i := 13) (v := .int .i64 (uy + f2)) rfl (by kernel_rfl) (by kernel_rfl) (by kernel_rfl) (fun _ _ _ h => h) (Or.inl ⟨by rfl, by rintro w' ⟨⟨⟨s1, s2⟩, t1⟩, t2⟩; unfold AtC at s1 s2 t1 t2; go_simp⟩) hS2 ?_
            refine wpAnyH_take (i := 14) (v := .agg #[.int .i64 (ux + f1), .int .i64 (uy + f2)]) rfl (by kernel_rfl) (by kernel_rfl) (by kernel_rfl) (fun _ _ _ h => h) (Or.inl ⟨by rfl, by rintro w' ⟨⟨⟨s1, s2⟩, t1⟩, t2⟩; unfold AtC at s1 s2 t1 t2; go_simp⟩) hS2 ?_
            refine wpAnyH_all (rs := [15]) (by kernel_rfl) (by simp) ?_
            intro i hi
            obtain rfl : i = 15 := by simpa using hi
            refine wpOp_now rfl (by rfl) ?_
            go_simp
            have hS3 : (fun w' : World => (((AtC b4 0 (.int .i64 ux) w' ∧ AtC b4 1 (.int .i64 uy) w') ∧ AtC (Y.heap.size) D (.int .i64 f1) w') ∧ AtC (Y.heap.size + 1) D (.int .i64 f2) w')) (((Y.alloc (.cells #[.int .i64 1, .int .i64 0, .int .i64 (-1), .int .i64 0] 3)).alloc (.cells #[.int .i64 0, .int .i64 1, .int .i64 0, .int .i64 (-1)] 3)).alloc (.cells #[.int .i64 0, .int .i64 0] 42)) := ⟨⟨⟨cellAl (hS2.1.1.1), cellAl (hS2.1.1.2)⟩, cellAl (hS2.1.2)⟩, cellAl (hS2.2)⟩
            have hT : (((Y.alloc (.cells #[.int .i64 1, .int .i64 0, .int .i64 (-1), .int .i64 0] 3)).alloc (.cells #[.int .i64 0, .int .i64 1, .int .i64 0, .int .i64 (-1)] 3)).alloc (.cells #[.int .i64 0, .int .i64 0] 42)).heap[Y.heap.size + 1 + 1]? = some (.cells #[.int .i64 0, .int .i64 0] 42) := newBlk (by simp)
            first | refine ⟨hS3, ?_⟩ | refine ⟨hS3.1.1.1, hS3.1.1.2, hS3.1.2, hS3.2, ?_⟩ | skip
            refine wpAnyH_all (rs := [16]) (by kernel_rfl) (by simp) ?_
            intro i hi
            obtain rfl : i = 16 := by simpa using hi
            refine wpOp_now rfl (by rfl) ?_
            go_simp
            first | refine ⟨⟨⟨⟨cellAl (hS2.1.1.1), cellAl (hS2.1.1.2)⟩, cellAl (hS2.1.2)⟩, cellAl (hS2.2)⟩, ?_⟩ | refine ⟨cellAl (hS2.1.1.1), cellAl (hS2.1.1.2), cellAl (hS2.1.2), cellAl (hS2.2), ?_⟩ | skip
            refine wpAnyH_done (by kernel_rfl) ?_ _
            refine end_gen (P := fun Wz : World => Wz.heap[Y.heap.size + 1 + 1]? = some (.cells #[.int .i64 (ux+f1), .int .i64 (uy+f2)] 42) ∧ Below Y.heap.size Y Wz ∧ Y.heap.size + 3 ≤ Wz.heap.size) ?_ ?_
            · exact ⟨newBlk (by simp), by repeat (first | exact bw_refl _ | apply bw_drew | apply bw_alloc), by simp⟩
            rintro Wz ⟨F7, BZ, zZ⟩
            obtain ⟨q0, q1⟩ := blk_2 F7
            have N4 := keep BZ B4
            have ownz := own8.kept (w' := Wz) (row := none) ⟨BZ.os, BZ.tape, BZ.output, BZ.size, fun j hj _ => BZ.block j hj⟩ (Classical.em _)
            have RZ := R.below BZ
            have PZ := P8.trans (Only.of_below BZ)
            clear c0 c1 k2 k3 h1 h2 hS0 hS1 hS2 hS3 BZ P8 own8 R B4
            have hp1 : ∀ b, ptB (ux + f1) (uy + f2) = b → Hid (∀ V, Calls Tryd.prog 54 #[.agg #[.int .i64 (ux+f1), .int .i64 (uy+f2)]] V fun e w' => e = .returned (.bool b) ∧ Below V.heap.size V w') := fun b hb V => by
              have := sPt_any (ux + f1) (uy + f2) V
              rwa [hb] at this
            cases hpt : ptB (ux + f1) (uy + f2)
            · have X1 := hp1 false hpt
              clear hp1 hpt
              go_wp2_with fail
              refine (X1.out _).mono ?_
              rintro e v1 ⟨rfl, J⟩
              go_wp2_with fail
              go_roundw
              case rel => exact ⟨l, ux, uy, pq, m', D, rfl, hD, by simp, hPB, hl1, by omega, ⟨u0, u1, u2, u3⟩, keep J N4, ownz.kept (w' := v1) (row := none) ⟨J.os, J.tape, J.output, J.size, fun j hj _ => J.block j hj⟩ (Classical.em _), by omega, RZ.below J, PZ.trans (Only.of_below J), by have := J.size; omega⟩
              case measure => simp [intOf]
            · have X1 := hp1 true hpt
              obtain ⟨v0, v1', v3', v4'⟩ : 0 ≤ ux + f1 ∧ ux + f1 ≤ 9 ∧ 0 ≤ uy + f2 ∧ uy + f2 ≤ 9 := (ptB_iff _ _).1 hpt
              clear hp1 hpt
              go_wp2_with fail
              refine (X1.out _).mono ?_
              rintro e v1 ⟨rfl, J⟩
              have N4' := keep J N4
              have N7 := keep J F7
              have ownv := ownz.kept (w' := v1) (row := none) ⟨J.os, J.tape, J.output, J.size, fun j hj _ => J.block j hj⟩ (Classical.em _)
              have RV := RZ.below J
              have PV := PZ.trans (Only.of_below J)
              have zv := J.size
              clear N4 F7 ownz RZ PZ J q0 q1
              obtain ⟨s1, s2, s5, s6⟩ := blk2 N4'
              obtain ⟨q0, q1⟩ := blk_2 N7
              obtain ⟨X, hX⟩ : ∃ X, X = (v1.setCell ⟨b4, 0, none⟩ (.int .i64 (ux + f1))).setCell ⟨b4, 1, none⟩ (.int .i64 (uy + f2)) := ⟨_, rfl⟩
              have D4 : X.heap[b4]? = some (.cells #[.int .i64 (ux+f1), .int .i64 (uy+f2)] 42) := by rw [hX]; exact setP2 N4'
              have GX : v1.grownBy X (some b4) := by
                rw [hX]
                refine ⟨rfl, rfl, rfl, by simp, fun q hq hqne => ?_⟩
                have hkne : q ≠ b4 := fun e => hqne (by rw [e])
                rw [Below.heap_setCell _ _ _ _ (by show q ≠ b4; exact hkne), Below.heap_setCell _ _ _ _ (by show q ≠ b4; exact hkne)]
              have ownX := ownv.kept GX (by rcases Classical.em (u4.ownBlock = none) with h | h; exact .inl h; exact .inr (fun e => by have := (ownv.lt _ e).1; omega))
              have PX : Only r w1 X := by rw [hX]; exact (PV.set (.inr (by show w1.heap.size ≤ b4; omega)) _).set (.inr (by show w1.heap.size ≤ b4; omega)) _
              have RX : Rd X r pq a len cap := by rw [hX]; exact (RV.set (by show r < b4; omega) _).set (by show r < b4; omega) _
              have zX : X.heap.size = v1.heap.size := by rw [hX]; simp
              obtain ⟨d0', d1'⟩ := blk_2 D4
              obtain ⟨g5, c5, rfl, _, _⟩ := ownX.form (by omega)
              have hg5 := (ownX.lt g5 rfl).1
              have hg5X := (ownX.lt g5 rfl).2
              go_upto_region 12 with fail
              rw [← hX]
              clear hX GX ownv RV PV N4' N7 s1 s2 s5 s6 q0 q1
              have T1 : (X.alloc (.cells #[.int .i64 (ux+f1), .int .i64 (uy+f2)] 42)).ownsRow (b4 + 1) 42 2 (.slice (some ⟨g5, 0, none⟩) l.length c5) l.length (ptCells l) := ownX.alloc _
              have T3 := World.news_of_block (cs := #[.int .i64 (ux + f1), .int .i64 (uy + f2)]) (t := 42) (fr := (0, 0)) (heap_alloc_new X _)
              rw [zX] at T3
              have T4 : (X.alloc (.cells #[.int .i64 (ux+f1), .int .i64 (uy+f2)] 42)).heap.size = X.heap.size + 1 := by simp
              go_wp2_with (at_builtin; refine wpList_append_lies _ rfl _ _ _ rfl (b4 + 1) 42 i0 _ 2 16 Tryd.underlying23 hi0 hz0 hz1 hz2 rfl ?_ _ _ _ ?_ T1 ⟨v1.heap.size, 0, none⟩ 1 1 [.int .i64 (ux + f1), .int .i64 (uy + f2)] ?_ ?_ ?_ ?_ ?_ ?_ ?_ ?_ (X.heap.size + 1) ?_ ?_; (any_goals first | omega | rfl | exact T3 | exact T4 | (simp [Value.oneCell']; done) | (simp [maxLen]; omega) | (simp; omega)); intro gg cap' w8 hown1 hgrow hat hlt1)
              have zw8 := hgrow.size
              rw [World.size_alloc] at zw8
              go_roundw
              case rel =>
                refine ⟨l ++ [(ux + f1, uy + f2)], ux + f1, uy + f2, pq, m', D, rfl, hD, by simp, pb_snoc hPB (pb_of (by omega) (by omega) (by omega) (by omega)), by simp, by simp; omega, ⟨by omega, by omega, by omega, by omega⟩, ?_, by rw [ptCells_snoc, List.length_append]; exact hown1, by omega, (RX.alloc _).grown hgrow (fun j e => by have e' : g5 = j := Option.some.inj e; omega), (PX.alloc _).grown hgrow (fun j e => by have e' : g5 = j := Option.some.inj e; omega), by omega⟩
                exact (hgrow.block b4 (by simp; omega) (fun e => by have e' : b4 = g5 := Option.some.inj e; omega)).trans ((Below.heap_alloc _ _ _ (blk_lt D4)).trans D4)
              case measure => simp [intOf]
          · skip
            refine wpOp_now rfl (by rfl) ?_
            go_simp
            have hS2 : (fun w' : World => ((AtC b4 0 (.int .i64 ux) w' ∧ AtC b4 1 (.int .i64 uy) w') ∧ AtC (Y.heap.size) D (.int .i64 f1) w')) ((Y.alloc (.cells #[.int .i64 1, .int .i64 0, .int .i64 (-1), .int .i64 0] 3)).alloc (.cells #[.int .i64 0, .int .i64 0] 42)) := ⟨⟨cellAl (hS1.1.1), cellAl (hS1.1.2)⟩, cellAl (hS1.2)⟩
            have hT : ((Y.alloc (.cells #[.int .i64 1, .int .i64 0, .int .i64 (-1), .int .i64 0] 3)).alloc (.cells #[.int .i64 0, .int .i64 0] 42)).heap[Y.heap.size + 1]? = some (.cells #[.int .i64 0, .int .i64 0] 42) := newBlk (by simp)
            first | refine ⟨hS2, ?_⟩ | refine ⟨hS2.1.1, hS2.1.2, hS2.2, ?_⟩ | skip
            refine wpAnyH_all (rs := [9]) (by kernel_rfl) (by simp) ?_
            intro i hi
            obtain rfl : i = 9 := by simpa using hi
            refine wpOp_now rfl (by rfl) ?_
            go_simp
            have hS3' : (fun w' : World => ((AtC b4 0 (.int .i64 ux) w' ∧ AtC b4 1 (.int .i64 uy) w') ∧ AtC (Y.heap.size) D (.int .i64 f1) w')) (((Y.alloc (.cells #[.int .i64 1, .int .i64 0, .int .i64 (-1), .int .i64 0] 3)).alloc (.cells #[.int .i64 0, .int .i64 0] 42)).alloc (.cells #[.int .i64 0, .int .i64 1, .int .i64 0, .int .i64 (-1)] 3)) := ⟨⟨cellAl (hS2.1.1), cellAl (hS2.1.2)⟩, cellAl (hS2.2)⟩
            have hT : (((Y.alloc (.cells #[.int .i64 1, .int .i64 0, .int .i64 (-1), .int .i64 0] 3)).alloc (.cells #[.int .i64 0, .int .i64 0] 42)).alloc (.cells #[.int .i64 0, .int .i64 1, .int .i64 0, .int .i64 (-1)] 3)).heap[Y.heap.size + 1]? = some (.cells #[.int .i64 0, .int .i64 0] 42) := (heap_old _ _ (blk_lt hT)).trans hT
            first | refine ⟨hS3', ?_⟩ | refine ⟨hS3'.1.1, hS3'.1.2, hS3'.2, ?_⟩ | skip
            have hS3 : (fun w' : World => (((AtC b4 0 (.int .i64 ux) w' ∧ AtC b4 1 (.int .i64 uy) w') ∧ AtC (Y.heap.size) D (.int .i64 f1) w') ∧ AtC (Y.heap.size + 1 + 1) D (.int .i64 f2) w')) (((Y.alloc (.cells #[.int .i64 1, .int .i64 0, .int .i64 (-1), .int .i64 0] 3)).alloc (.cells #[.int .i64 0, .int .i64 0] 42)).alloc (.cells #[.int .i64 0, .int .i64 1, .int .i64 0, .int .i64 (-1)] 3)) := ⟨hS3', newArr (by simp) h2⟩
            refine anyH_grow (S' := fun w' : World => (((AtC b4 0 (.int .i64 ux) w' ∧ AtC b4 1 (.int .i64 uy) w') ∧ AtC (Y.heap.size) D (.int .i64 f1) w') ∧ AtC (Y.heap.size + 1 + 1) D (.int .i64 f2) w')) (fun _ h => h.1) _ _ _ _ ?_
            refine wpAnyH_take (i := 11) (v := .pointer (some ⟨Y.heap.size + 1 + 1, D, none⟩)) rfl (by kernel_rfl) (by kernel_rfl) (by kernel_rfl) (fun _ _ _ h => h) (Or.inl ⟨by rfl, by rintro w' ⟨⟨⟨s1, s2⟩, t1⟩, t3⟩; unfold AtC at s1 s2 t1 t3; go_simp⟩) hS3 ?_
            refine wpAnyH_take (i := 12) (v := .int .i64 f2) rfl (by kernel_rfl) (by kernel_rfl) (by kernel_rfl) (fun _ _ _ h => h) (Or.inl ⟨by rfl, by rintro w' ⟨⟨⟨s1, s2⟩, t1⟩, t3⟩; unfold AtC at s1 s2 t1 t3; go_simp⟩) hS3 ?_
            refine wpAnyH_take (i := 13) (v := .int .i64 (uy + f2)) rfl (by kernel_rfl) (by kernel_rfl) (by kernel_rfl) (fun _ _ _ h => h) (Or.inl ⟨by rfl, by rintro w' ⟨⟨⟨s1, s2⟩, t1⟩, t3⟩; unfold AtC at s1 s2 t1 t3; go_simp⟩) hS3 ?_
            refine wpAnyH_take (i := 14) (v := .agg #[.int .i64 (ux + f1), .int .i64 (uy + f2)]) rfl (by kernel_rfl) (by kernel_rfl) (by kernel_rfl) (fun _ _ _ h => h) (Or.inl ⟨by rfl, by rintro w' ⟨⟨⟨s1, s2⟩, t1⟩, t3⟩; unfold AtC at s1 s2 t1 t3; go_simp⟩) hS3 ?_
            refine wpAnyH_all (rs := [16]) (by kernel_rfl) (by simp) ?_
            intro i hi
            obtain rfl : i = 16 := by simpa using hi
            refine wpOp_now rfl (by rfl) ?_
            go_simp
            first | refine ⟨⟨⟨⟨cellAl (cellAl (cellAl (hS0.1))), cellAl (cellAl (cellAl (hS0.2)))⟩, cellAl (cellAl (newArr (by simp) h1))⟩, newArr (by simp) h2⟩, ?_⟩ | refine ⟨cellAl (cellAl (cellAl (hS0.1))), cellAl (cellAl (cellAl (hS0.2))), cellAl (cellAl (newArr (by simp) h1)), newArr (by simp) h2, ?_⟩ | skip
            refine wpAnyH_done (by kernel_rfl) ?_ _
            refine end_gen (P := fun Wz : World => Wz.heap[Y.heap.size + 1]? = some (.cells #[.int .i64 (ux+f1), .int .i64 (uy+f2)] 42) ∧ Below Y.heap.size Y Wz ∧ Y.heap.size + 3 ≤ Wz.heap.size) ?_ ?_
            · exact ⟨blkAl (newBlk (by simp)), by repeat (first | exact bw_refl _ | apply bw_drew | apply bw_alloc), by simp⟩
            rintro Wz ⟨F7, BZ, zZ⟩
            obtain ⟨q0, q1⟩ := blk_2 F7
            have N4 := keep BZ B4
            have ownz := own8.kept (w' := Wz) (row := none) ⟨BZ.os, BZ.tape, BZ.output, BZ.size, fun j hj _ => BZ.block j hj⟩ (Classical.em _)
            have RZ := R.below BZ
            have PZ := P8.trans (Only.of_below BZ)
            clear c0 c1 k2 k3 h1 h2 hS0 hS1 hS2 hS3 BZ P8 own8 R B4
            have hp1 : ∀ b, ptB (ux + f1) (uy + f2) = b → Hid (∀ V, Calls Tryd.prog 54 #[.agg #[.int .i64 (ux+f1), .int .i64 (uy+f2)]] V fun e w' => e = .returned (.bool b) ∧ Below V.heap.size V w') := fun b hb V => by
              have := sPt_any (ux + f1) (uy + f2) V
              rwa [hb] at this
            cases hpt : ptB (ux + f1) (uy + f2)
            · have X1 := hp1 false hpt
              clear hp1 hpt
              go_wp2_with fail
              refine (X1.out _).mono ?_
              rintro e v1 ⟨rfl, J⟩
              go_wp2_with fail
              go_roundw
              case rel => exact ⟨l, ux, uy, pq, m', D, rfl, hD, by simp, hPB, hl1, by omega, ⟨u0, u1, u2, u3⟩, keep J N4, ownz.kept (w' := v1) (row := none) ⟨J.os, J.tape, J.output, J.size, fun j hj _ => J.block j hj⟩ (Classical.em _), by omega, RZ.below J, PZ.trans (Only.of_below J), by have := J.size; omega⟩
              case measure => simp [intOf]
            · have X1 := hp1 true hpt
              obtain ⟨v0, v1', v3', v4'⟩ : 0 ≤ ux + f1 ∧ ux + f1 ≤ 9 ∧ 0 ≤ uy + f2 ∧ uy + f2 ≤ 9 := (ptB_iff _ _).1 hpt
              clear hp1 hpt
              go_wp2_with fail
              refine (X1.out _).mono ?_
              rintro e v1 ⟨rfl, J⟩
              have N4' := keep J N4
              have N7 := keep J F7
              have ownv := ownz.kept (w' := v1) (row := none) ⟨J.os, J.tape, J.output, J.size, fun j hj _ => J.block j hj⟩ (Classical.em _)
              have RV := RZ.below J
              have PV := PZ.trans (Only.of_below J)
              have zv := J.size
              clear N4 F7 ownz RZ PZ J q0 q1
              obtain ⟨s1, s2, s5, s6⟩ := blk2 N4'
              obtain ⟨q0, q1⟩ := blk_2 N7
              obtain ⟨X, hX⟩ : ∃ X, X = (v1.setCell ⟨b4, 0, none⟩ (.int .i64 (ux + f1))).setCell ⟨b4, 1, none⟩ (.int .i64 (uy + f2)) := ⟨_, rfl⟩
              have D4 : X.heap[b4]? = some (.cells #[.int .i64 (ux+f1), .int .i64 (uy+f2)] 42) := by rw [hX]; exact setP2 N4'
              have GX : v1.grownBy X (some b4) := by
                rw [hX]
                refine ⟨rfl, rfl, rfl, by simp, fun q hq hqne => ?_⟩
                have hkne : q ≠ b4 := fun e => hqne (by rw [e])
                rw [Below.heap_setCell _ _ _ _ (by show q ≠ b4; exact hkne), Below.heap_setCell _ _ _ _ (by show q ≠ b4; exact hkne)]
              have ownX := ownv.kept GX (by rcases Classical.em (u4.ownBlock = none) with h | h; exact .inl h; exact .inr (fun e => by have := (ownv.lt _ e).1; omega))
              have PX : Only r w1 X := by rw [hX]; exact (PV.set (.inr (by show w1.heap.size ≤ b4; omega)) _).set (.inr (by show w1.heap.size ≤ b4; omega)) _
              have RX : Rd X r pq a len cap := by rw [hX]; exact (RV.set (by show r < b4; omega) _).set (by show r < b4; omega) _
              have zX : X.heap.size = v1.heap.size := by rw [hX]; simp
              obtain ⟨d0', d1'⟩ := blk_2 D4
              obtain ⟨g5, c5, rfl, _, _⟩ := ownX.form (by omega)
              have hg5 := (ownX.lt g5 rfl).1
              have hg5X := (ownX.lt g5 rfl).2
              go_upto_region 12 with fail
              rw [← hX]
              clear hX GX ownv RV PV N4' N7 s1 s2 s5 s6 q0 q1
              have T1 : (X.alloc (.cells #[.int .i64 (ux+f1), .int .i64 (uy+f2)] 42)).ownsRow (b4 + 1) 42 2 (.slice (some ⟨g5, 0, none⟩) l.length c5) l.length (ptCells l) := ownX.alloc _
              have T3 := World.news_of_block (cs := #[.int .i64 (ux + f1), .int .i64 (uy + f2)]) (t := 42) (fr := (0, 0)) (heap_alloc_new X _)
              rw [zX] at T3
              have T4 : (X.alloc (.cells #[.int .i64 (ux+f1), .int .i64 (uy+f2)] 42)).heap.size = X.heap.size + 1 := by simp
              go_wp2_with (at_builtin; refine wpList_append_lies _ rfl _ _ _ rfl (b4 + 1) 42 i0 _ 2 16 Tryd.underlying23 hi0 hz0 hz1 hz2 rfl ?_ _ _ _ ?_ T1 ⟨v1.heap.size, 0, none⟩ 1 1 [.int .i64 (ux + f1), .int .i64 (uy + f2)] ?_ ?_ ?_ ?_ ?_ ?_ ?_ ?_ (X.heap.size + 1) ?_ ?_; (any_goals first | omega | rfl | exact T3 | exact T4 | (simp [Value.oneCell']; done) | (simp [maxLen]; omega) | (simp; omega)); intro gg cap' w8 hown1 hgrow hat hlt1)
              have zw8 := hgrow.size
              rw [World.size_alloc] at zw8
              go_roundw
              case rel =>
                refine ⟨l ++ [(ux + f1, uy + f2)], ux + f1, uy + f2, pq, m', D, rfl, hD, by simp, pb_snoc hPB (pb_of (by omega) (by omega) (by omega) (by omega)), by simp, by simp; omega, ⟨by omega, by omega, by omega, by omega⟩, ?_, by rw [ptCells_snoc, List.length_append]; exact hown1, by omega, (RX.alloc _).grown hgrow (fun j e => by have e' : g5 = j := Option.some.inj e; omega), (PX.alloc _).grown hgrow (fun j e => by have e' : g5 = j := Option.some.inj e; omega), by omega⟩
                exact (hgrow.block b4 (by simp; omega) (fun e => by have e' : b4 = g5 := Option.some.inj e; omega)).trans ((Below.heap_alloc _ _ _ (blk_lt D4)).trans D4)
              case measure => simp [intOf]
        · skip
          refine wpOp_now rfl (by rfl) ?_
          go_simp
          have hS1' : (fun w' : World => (AtC b4 0 (.int .i64 ux) w' ∧ AtC b4 1 (.int .i64 uy) w')) (Y.alloc (.cells #[.int .i64 0, .int .i64 1, .int .i64 0, .int .i64 (-1)] 3)) := ⟨cellAl (hS0.1), cellAl (hS0.2)⟩
          first | refine ⟨hS1', ?_⟩ | refine ⟨hS1'.1, hS1'.2, ?_⟩ | skip
          have hS1 : (fun w' : World => ((AtC b4 0 (.int .i64 ux) w' ∧ AtC b4 1 (.int .i64 uy) w') ∧ AtC (Y.heap.size) D (.int .i64 f2) w')) (Y.alloc (.cells #[.int .i64 0, .int .i64 1, .int .i64 0, .int .i64 (-1)] 3)) := ⟨hS1', newArr (by simp) h2⟩
          refine anyH_grow (S' := fun w' : World => ((AtC b4 0 (.int .i64 ux) w' ∧ AtC b4 1 (.int .i64 uy) w') ∧ AtC (Y.heap.size) D (.int .i64 f2) w')) (fun _ h => h.1) _ _ _ _ ?_
          refine wpAnyH_take (i := 11) (v := .pointer (some ⟨Y.heap.size, D, none⟩)) rfl (by kernel_rfl) (by kernel_rfl) (by kernel_rfl) (fun _ _ _ h => h) (Or.inl ⟨by rfl, by rintro w' ⟨⟨s1, s2⟩, t1⟩; unfold AtC at s1 s2 t1; go_simp⟩) hS1 ?_
          refine wpAnyH_take (i := 12) (v := .int .i64 f2) rfl (by kernel_rfl) (by kernel_rfl) (by kernel_rfl) (fun _ _ _ h => h) (Or.inl ⟨by rfl, by rintro w' ⟨⟨s1, s2⟩, t1⟩; unfold AtC at s1 s2 t1; go_simp⟩) hS1 ?_
          refine wpAnyH_take (i := 13) (v := .int .i64 (uy + f2)) rfl (by kernel_rfl) (by kernel_rfl) (by kernel_rfl) (fun _ _ _ h => h) (Or.inl ⟨by rfl, by rintro w' ⟨⟨s1, s2⟩, t1⟩; unfold AtC at s1 s2 t1; go_simp⟩) hS1 ?_
          refine wpAnyH_all (rs := [2, 15]) (by kernel_rfl) (by simp) ?_
          intro i hi
          have hi' : i = 2 ∨ i = 15 := by simpa using hi
          rcases hi' with rfl | rfl
          · skip
            refine wpOp_now rfl (by rfl) ?_
            go_simp
            have hS2' : (fun w' : World => ((AtC b4 0 (.int .i64 ux) w' ∧ AtC b4 1 (.int .i64 uy) w') ∧ AtC (Y.heap.size) D (.int .i64 f2) w')) ((Y.alloc (.cells #[.int .i64 0, .int .i64 1, .int .i64 0, .int .i64 (-1)] 3)).alloc (.cells #[.int .i64 1, .int .i64 0, .int .i64 (-1), .int .i64 0] 3)) := ⟨⟨cellAl (hS1.1.1), cellAl (hS1.1.2)⟩, cellAl (hS1.2)⟩
            first | refine ⟨hS2', ?_⟩ | refine ⟨hS2'.1.1, hS2'.1.2, hS2'.2, ?_⟩ | skip
            have hS2 : (fun w' : World => (((AtC b4 0 (.int .i64 ux) w' ∧ AtC b4 1 (.int .i64 uy) w') ∧ AtC (Y.heap.size) D (.int .i64 f2) w') ∧ AtC (Y.heap.size + 1) D (.int .i64 f1) w')) ((Y.alloc (.cells #[.int .i64 0, .int .i64 1, .int .i64 0, .int .i64 (-1)] 3)).alloc (.cells #[.int .i64 1, .int .i64 0, .int .i64 (-1), .int .i64 0] 3)) := ⟨hS2', newArr (by simp) h1⟩
            refine anyH_grow (S' := fun w' : World => (((AtC b4 0 (.int .i64 ux) w' ∧ AtC b4 1 (.int .i64 uy) w') ∧ AtC (Y.heap.size) D (.int .i64 f2) w') ∧ AtC (Y.heap.size + 1) D (.int .i64 f1) w')) (fun _ h => h.1) _ _ _ _ ?_
            refine wpAnyH_take (i := 4) (v := .pointer (some ⟨Y.heap.size + 1, D, none⟩)) rfl (by kernel_rfl) (by kernel_rfl) (by kernel_rfl) (fun _ _ _ h => h) (Or.inl ⟨by rfl, by rintro w' ⟨⟨⟨s1, s2⟩, t1⟩, t2⟩; unfold AtC at s1 s2 t1 t2; go_simp⟩) hS2 ?_
            refine wpAnyH_take (i := 5) (v := .int .i64 f1) rfl (by kernel_rfl) (by kernel_rfl) (by kernel_rfl) (fun _ _ _ h => h) (Or.inl ⟨by rfl, by rintro w' ⟨⟨⟨s1, s2⟩, t1⟩, t2⟩; unfold AtC at s1 s2 t1 t2; go_simp⟩) hS2 ?_
            refine wpAnyH_take (i := 6) (v := .int .i64 (ux + f1)) rfl (by kernel_rfl) (by kernel_rfl) (by kernel_rfl) (fun _ _ _ h => h) (Or.inl ⟨by rfl, by rintro w' ⟨⟨⟨s1, s2⟩, t1⟩, t2⟩; unfold AtC at s1 s2 t1 t2; go_simp⟩) hS2 ?_
            refine wpAnyH_take (i := 14) (v := .agg #[.int .i64 (ux + f1), .int .i64 (uy + f2)]) rfl (by kernel_rfl) (by kernel_rfl) (by kernel_rfl) (fun _ _ _ h => h) (Or.inl ⟨by rfl, by rintro w' ⟨⟨⟨s1, s2⟩, t1⟩, t2⟩; unfold AtC at s1 s2 t1 t2; go_simp⟩) hS2 ?_
            refine wpAnyH_all (rs := [15]) (by kernel_rfl) (by simp) ?_
            intro i hi
            obtain rfl : i = 15 := by simpa using hi
            refine wpOp_now rfl (by rfl) ?_
            go_simp
            have hS3 : (fun w' : World => (((AtC b4 0 (.int .i64 ux) w' ∧ AtC b4 1 (.int .i64 uy) w') ∧ AtC (Y.heap.size) D (.int .i64 f2) w') ∧ AtC (Y.heap.size + 1) D (.int .i64 f1) w')) (((Y.alloc (.cells #[.int .i64 0, .int .i64 1, .int .i64 0, .int .i64 (-1)] 3)).alloc (.cells #[.int .i64 1, .int .i64 0, .int .i64 (-1), .int .i64 0] 3)).alloc (.cells #[.int .i64 0, .int .i64 0] 42)) := ⟨⟨⟨cellAl (hS2.1.1.1), cellAl (hS2.1.1.2)⟩, cellAl (hS2.1.2)⟩, cellAl (hS2.2)⟩
            have hT : (((Y.alloc (.cells #[.int .i64 0, .int .i64 1, .int .i64 0, .int .i64 (-1)] 3)).alloc (.cells #[.int .i64 1, .int .i64 0, .int .i64 (-1), .int .i64 0] 3)).alloc (.cells #[.int .i64 0, .int .i64 0] 42)).heap[Y.heap.size + 1 + 1]? = some (.cells #[.int .i64 0, .int .i64 0] 42) := newBlk (by simp)
            first | refine ⟨hS3, ?_⟩ | refine ⟨hS3.1.1.1, hS3.1.1.2, hS3.1.2, hS3.2, ?_⟩ | skip
            refine wpAnyH_all (rs := [16]) (by kernel_rfl) (by simp) ?_
            intro i hi
            obtain rfl : i = 16 := by simpa using hi
            refine wpOp_now rfl (by rfl) ?_
            go_simp
            first | refine ⟨⟨⟨⟨cellAl (hS2.1.1.1), cellAl (hS2.1.1.2)⟩, cellAl (hS2.1.2)⟩, cellAl (hS2.2)⟩, ?_⟩ | refine ⟨cellAl (hS2.1.1.1), cellAl (hS2.1.1.2), cellAl (hS2.1.2), cellAl (hS2.2), ?_⟩ | skip
            refine wpAnyH_done (by kernel_rfl) ?_ _
            refine end_gen (P := fun Wz : World => Wz.heap[Y.heap.size + 1 + 1]? = some (.cells #[.int .i64 (ux+f1), .int .i64 (uy+f2)] 42) ∧ Below Y.heap.size Y Wz ∧ Y.heap.size + 3 ≤ Wz.heap.size) ?_ ?_
            · exact ⟨newBlk (by simp), by repeat (first | exact bw_refl _ | apply bw_drew | apply bw_alloc), by simp⟩
            rintro Wz ⟨F7, BZ, zZ⟩
            obtain ⟨q0, q1⟩ := blk_2 F7
            have N4 := keep BZ B4
            have ownz := own8.kept (w' := Wz) (row := none) ⟨BZ.os, BZ.tape, BZ.output, BZ.size, fun j hj _ => BZ.block j hj⟩ (Classical.em _)
            have RZ := R.below BZ
            have PZ := P8.trans (Only.of_below BZ)
            clear c0 c1 k2 k3 h1 h2 hS0 hS1 hS2 hS3 BZ P8 own8 R B4
            have hp1 : ∀ b, ptB (ux + f1) (uy + f2) = b → Hid (∀ V, Calls Tryd.prog 54 #[.agg #[.int .i64 (ux+f1), .int .i64 (uy+f2)]] V fun e w' => e = .returned (.bool b) ∧ Below V.heap.size V w') := fun b hb V => by
              have := sPt_any (ux + f1) (uy + f2) V
              rwa [hb] at this
            cases hpt : ptB (ux + f1) (uy + f2)
            · have X1 := hp1 false hpt
              clear hp1 hpt
              go_wp2_with fail
              refine (X1.out _).mono ?_
              rintro e v1 ⟨rfl, J⟩
              go_wp2_with fail
              go_roundw
              case rel => exact ⟨l, ux, uy, pq, m', D, rfl, hD, by simp, hPB, hl1, by omega, ⟨u0, u1, u2, u3⟩, keep J N4, ownz.kept (w' := v1) (row := none) ⟨J.os, J.tape, J.output, J.size, fun j hj _ => J.block j hj⟩ (Classical.em _), by omega, RZ.below J, PZ.trans (Only.of_below J), by have := J.size; omega⟩
              case measure => simp [intOf]
            · have X1 := hp1 true hpt
              obtain ⟨v0, v1', v3', v4'⟩ : 0 ≤ ux + f1 ∧ ux + f1 ≤ 9 ∧ 0 ≤ uy + f2 ∧ uy + f2 ≤ 9 := (ptB_iff _ _).1 hpt
              clear hp1 hpt
              go_wp2_with fail
              refine (X1.out _).mono ?_
              rintro e v1 ⟨rfl, J⟩
              have N4' := keep J N4
              have N7 := keep J F7
              have ownv := ownz.kept (w' := v1) (row := none) ⟨J.os, J.tape, J.output, J.size, fun j hj _ => J.block j hj⟩ (Classical.em _)
              have RV := RZ.below J
              have PV := PZ.trans (Only.of_below J)
              have zv := J.size
              clear N4 F7 ownz RZ PZ J q0 q1
              obtain ⟨s1, s2, s5, s6⟩ := blk2 N4'
              obtain ⟨q0, q1⟩ := blk_2 N7
              obtain ⟨X, hX⟩ : ∃ X, X = (v1.setCell ⟨b4, 0, none⟩ (.int .i64 (ux + f1))).setCell ⟨b4, 1, none⟩ (.int .i64 (uy + f2)) := ⟨_, rfl⟩
              have D4 : X.heap[b4]? = some (.cells #[.int .i64 (ux+f1), .int .i64 (uy+f2)] 42) := by rw [hX]; exact setP2 N4'
              have GX : v1.grownBy X (some b4) := by
                rw [hX]
                refine ⟨rfl, rfl, rfl, by simp, fun q hq hqne => ?_⟩
                have hkne : q ≠ b4 := fun e => hqne (by rw [e])
                rw [Below.heap_setCell _ _ _ _ (by show q ≠ b4; exact hkne), Below.heap_setCell _ _ _ _ (by show q ≠ b4; exact hkne)]
              have ownX := ownv.kept GX (by rcases Classical.em (u4.ownBlock = none) with h | h; exact .inl h; exact .inr (fun e => by have := (ownv.lt _ e).1; omega))
              have PX : Only r w1 X := by rw [hX]; exact (PV.set (.inr (by show w1.heap.size ≤ b4; omega)) _).set (.inr (by show w1.heap.size ≤ b4; omega)) _
              have RX : Rd X r pq a len cap := by rw [hX]; exact (RV.set (by show r < b4; omega) _).set (by show r < b4; omega) _
              have zX : X.heap.size = v1.heap.size := by rw [hX]; simp
              obtain ⟨d0', d1'⟩ := blk_2 D4
              obtain ⟨g5, c5, rfl, _, _⟩ := ownX.form (by omega)
              have hg5 := (ownX.lt g5 rfl).1
              have hg5X := (ownX.lt g5 rfl).2
              go_upto_region 12 with fail
              rw [← hX]
              clear hX GX ownv RV PV N4' N7 s1 s2 s5 s6 q0 q1
              have T1 : (X.alloc (.cells #[.int .i64 (ux+f1), .int .i64 (uy+f2)] 42)).ownsRow (b4 + 1) 42 2 (.slice (some ⟨g5, 0, none⟩) l.length c5) l.length (ptCells l) := ownX.alloc _
              have T3 := World.news_of_block (cs := #[.int .i64 (ux + f1), .int .i64 (uy + f2)]) (t := 42) (fr := (0, 0)) (heap_alloc_new X _)
              rw [zX] at T3
              have T4 : (X.alloc (.cells #[.int .i64 (ux+f1), .int .i64 (uy+f2)] 42)).heap.size = X.heap.size + 1 := by simp
              go_wp2_with (at_builtin; refine wpList_append_lies _ rfl _ _ _ rfl (b4 + 1) 42 i0 _ 2 16 Tryd.underlying23 hi0 hz0 hz1 hz2 rfl ?_ _ _ _ ?_ T1 ⟨v1.heap.size, 0, none⟩ 1 1 [.int .i64 (ux + f1), .int .i64 (uy + f2)] ?_ ?_ ?_ ?_ ?_ ?_ ?_ ?_ (X.heap.size + 1) ?_ ?_; (any_goals first | omega | rfl | exact T3 | exact T4 | (simp [Value.oneCell']; done) | (simp [maxLen]; omega) | (simp; omega)); intro gg cap' w8 hown1 hgrow hat hlt1)
              have zw8 := hgrow.size
              rw [World.size_alloc] at zw8
              go_roundw
              case rel =>
                refine ⟨l ++ [(ux + f1, uy + f2)], ux + f1, uy + f2, pq, m', D, rfl, hD, by simp, pb_snoc hPB (pb_of (by omega) (by omega) (by omega) (by omega)), by simp, by simp; omega, ⟨by omega, by omega, by omega, by omega⟩, ?_, by rw [ptCells_snoc, List.length_append]; exact hown1, by omega, (RX.alloc _).grown hgrow (fun j e => by have e' : g5 = j := Option.some.inj e; omega), (PX.alloc _).grown hgrow (fun j e => by have e' : g5 = j := Option.some.inj e; omega), by omega⟩
                exact (hgrow.block b4 (by simp; omega) (fun e => by have e' : b4 = g5 := Option.some.inj e; omega)).trans ((Below.heap_alloc _ _ _ (blk_lt D4)).trans D4)
              case measure => simp [intOf]
          · skip
            refine wpOp_now rfl (by rfl) ?_
            go_simp
            have hS2 : (fun w' : World => ((AtC b4 0 (.int .i64 ux) w' ∧ AtC b4 1 (.int .i64 uy) w') ∧ AtC (Y.heap.size) D (.int .i64 f2) w')) ((Y.alloc (.cells #[.int .i64 0, .int .i64 1, .int .i64 0, .int .i64 (-1)] 3)).alloc (.cells #[.int .i64 0, .int .i64 0] 42)) := ⟨⟨cellAl (hS1.1.1), cellAl (hS1.1.2)⟩, cellAl (hS1.2)⟩
            have hT : ((Y.alloc (.cells #[.int .i64 0, .int .i64 1, .int .i64 0, .int .i64 (-1)] 3)).alloc (.cells #[.int .i64 0, .int .i64 0] 42)).heap[Y.heap.size + 1]? = some (.cells #[.int .i64 0, .int .i64 0] 42) := newBlk (by simp)
            first | refine ⟨hS2, ?_⟩ | refine ⟨hS2.1.1, hS2.1.2, hS2.2, ?_⟩ | skip
            refine wpAnyH_all (rs := [2]) (by kernel_rfl) (by simp) ?_
            intro i hi
            obtain rfl : i = 2 := by simpa using hi
            refine wpOp_now rfl (by rfl) ?_
            go_simp
            have hS3' : (fun w' : World => ((AtC b4 0 (.int .i64 ux) w' ∧ AtC b4 1 (.int .i64 uy) w') ∧ AtC (Y.heap.size) D (.int .i64 f2) w')) (((Y.alloc (.cells #[.int .i64 0, .int .i64 1, .int .i64 0, .int .i64 (-1)] 3)).alloc (.cells #[.int .i64 0, .int .i64 0] 42)).alloc (.cells #[.int .i64 1, .int .i64 0, .int .i64 (-1), .int .i64 0] 3)) := ⟨⟨cellAl (hS2.1.1), cellAl (hS2.1.2)⟩, cellAl (hS2.2)⟩
            have hT : (((Y.alloc (.cells #[.int .i64 0, .int .i64 1, .int .i64 0, .int .i64 (-1)] 3)).alloc (.cells #[.int .i64 0, .int .i64 0] 42)).alloc (.cells #[.int .i64 1, .int .i64 0, .int .i64 (-1), .int .i64 0] 3)).heap[Y.heap.size + 1]? = some (.cells #[.int .i64 0, .int .i64 0] 42) := (heap_old _ _ (blk_lt hT)).trans hT
            first | refine ⟨hS3', ?_⟩ | refine ⟨hS3'.1.1, hS3'.1.2, hS3'.2, ?_⟩ | skip
            have hS3 : (fun w' : World => (((AtC b4 0 (.int .i64 ux) w' ∧ AtC b4 1 (.int .i64 uy) w') ∧ AtC (Y.heap.size) D (.int .i64 f2) w') ∧ AtC (Y.heap.size + 1 + 1) D (.int .i64 f1) w')) (((Y.alloc (.cells #[.int .i64 0, .int .i64 1, .int .i64 0, .int .i64 (-1)] 3)).alloc (.cells #[.int .i64 0, .int .i64 0] 42)).alloc (.cells #[.int .i64 1, .int .i64 0, .int .i64 (-1), .int .i64 0] 3)) := ⟨hS3', newArr (by simp) h1⟩
            refine anyH_grow (S' := fun w' : World => (((AtC b4 0 (.int .i64 ux) w' ∧ AtC b4 1 (.int .i64 uy) w') ∧ AtC (Y.heap.size) D (.int .i64 f2) w') ∧ AtC (Y.heap.size + 1 + 1) D (.int .i64 f1) w')) (fun _ h => h.1) _ _ _ _ ?_
            refine wpAnyH_take (i := 4) (v := .pointer (some ⟨Y.heap.size + 1 + 1, D, none⟩)) rfl (by kernel_rfl) (by kernel_rfl) (by kernel_rfl) (fun _ _ _ h => h) (Or.inl ⟨by rfl, by rintro w' ⟨⟨⟨s1, s2⟩, t1⟩, t3⟩; unfold AtC at s1 s2 t1 t3; go_simp⟩) hS3 ?_
            refine wpAnyH_take (i := 5) (v := .int .i64 f1) rfl (by kernel_rfl) (by kernel_rfl) (by kernel_rfl) (fun _ _ _ h => h) (Or.inl ⟨by rfl, by rintro w' ⟨⟨⟨s1, s2⟩, t1⟩, t3⟩; unfold AtC at s1 s2 t1 t3; go_simp⟩) hS3 ?_
            refine wpAnyH_take (i := 6) (v := .int .i64 (ux + f1)) rfl (by kernel_rfl) (by kernel_rfl) (by kernel_rfl) (fun _ _ _ h => h) (Or.inl ⟨by rfl, by rintro w' ⟨⟨⟨s1, s2⟩, t1⟩, t3⟩; unfold AtC at s1 s2 t1 t3; go_simp⟩) hS3 ?_
            refine wpAnyH_take (i := 14) (v := .agg #[.int .i64 (ux + f1), .int .i64 (uy + f2)]) rfl (by kernel_rfl) (by kernel_rfl) (by kernel_rfl) (fun _ _ _ h => h) (Or.inl ⟨by rfl, by rintro w' ⟨⟨⟨s1, s2⟩, t1⟩, t3⟩; unfold AtC at s1 s2 t1 t3; go_simp⟩) hS3 ?_
            refine wpAnyH_all (rs := [16]) (by kernel_rfl) (by simp) ?_
            intro i hi
            obtain rfl : i = 16 := by simpa using hi
            refine wpOp_now rfl (by rfl) ?_
            go_simp
            first | refine ⟨⟨⟨⟨cellAl (cellAl (cellAl (hS0.1))), cellAl (cellAl (cellAl (hS0.2)))⟩, cellAl (cellAl (newArr (by simp) h2))⟩, newArr (by simp) h1⟩, ?_⟩ | refine ⟨cellAl (cellAl (cellAl (hS0.1))), cellAl (cellAl (cellAl (hS0.2))), cellAl (cellAl (newArr (by simp) h2)), newArr (by simp) h1, ?_⟩ | skip
            refine wpAnyH_done (by kernel_rfl) ?_ _
            refine end_gen (P := fun Wz : World => Wz.heap[Y.heap.size + 1]? = some (.cells #[.int .i64 (ux+f1), .int .i64 (uy+f2)] 42) ∧ Below Y.heap.size Y Wz ∧ Y.heap.size + 3 ≤ Wz.heap.size) ?_ ?_
            · exact ⟨blkAl (newBlk (by simp)), by repeat (first | exact bw_refl _ | apply bw_drew | apply bw_alloc), by simp⟩
            rintro Wz ⟨F7, BZ, zZ⟩
            obtain ⟨q0, q1⟩ := blk_2 F7
            have N4 := keep BZ B4
            have ownz := own8.kept (w' := Wz) (row := none) ⟨BZ.os, BZ.tape, BZ.output, BZ.size, fun j hj _ => BZ.block j hj⟩ (Classical.em _)
            have RZ := R.below BZ
            have PZ := P8.trans (Only.of_below BZ)
            clear c0 c1 k2 k3 h1 h2 hS0 hS1 hS2 hS3 BZ P8 own8 R B4
            have hp1 : ∀ b, ptB (ux + f1) (uy + f2) = b → Hid (∀ V, Calls Tryd.prog 54 #[.agg #[.int .i64 (ux+f1), .int .i64 (uy+f2)]] V fun e w' => e = .returned (.bool b) ∧ Below V.heap.size V w') := fun b hb V => by
              have := sPt_any (ux + f1) (uy + f2) V
              rwa [hb] at this
            cases hpt : ptB (ux + f1) (uy + f2)
            · have X1 := hp1 false hpt
              clear hp1 hpt
              go_wp2_with fail
              refine (X1.out _).mono ?_
              rintro e v1 ⟨rfl, J⟩
              go_wp2_with fail
              go_roundw
              case rel => exact ⟨l, ux, uy, pq, m', D, rfl, hD, by simp, hPB, hl1, by omega, ⟨u0, u1, u2, u3⟩, keep J N4, ownz.kept (w' := v1) (row := none) ⟨J.os, J.tape, J.output, J.size, fun j hj _ => J.block j hj⟩ (Classical.em _), by omega, RZ.below J, PZ.trans (Only.of_below J), by have := J.size; omega⟩
              case measure => simp [intOf]
            · have X1 := hp1 true hpt
              obtain ⟨v0, v1', v3', v4'⟩ : 0 ≤ ux + f1 ∧ ux + f1 ≤ 9 ∧ 0 ≤ uy + f2 ∧ uy + f2 ≤ 9 := (ptB_iff _ _).1 hpt
              clear hp1 hpt
              go_wp2_with fail
              refine (X1.out _).mono ?_
              rintro e v1 ⟨rfl, J⟩
              have N4' := keep J N4
              have N7 := keep J F7
              have ownv := ownz.kept (w' := v1) (row := none) ⟨J.os, J.tape, J.output, J.size, fun j hj _ => J.block j hj⟩ (Classical.em _)
              have RV := RZ.below J
              have PV := PZ.trans (Only.of_below J)
              have zv := J.size
              clear N4 F7 ownz RZ PZ J q0 q1
              obtain ⟨s1, s2, s5, s6⟩ := blk2 N4'
              obtain ⟨q0, q1⟩ := blk_2 N7
              obtain ⟨X, hX⟩ : ∃ X, X = (v1.setCell ⟨b4, 0, none⟩ (.int .i64 (ux + f1))).setCell ⟨b4, 1, none⟩ (.int .i64 (uy + f2)) := ⟨_, rfl⟩
              have D4 : X.heap[b4]? = some (.cells #[.int .i64 (ux+f1), .int .i64 (uy+f2)] 42) := by rw [hX]; exact setP2 N4'
              have GX : v1.grownBy X (some b4) := by
                rw [hX]
                refine ⟨rfl, rfl, rfl, by simp, fun q hq hqne => ?_⟩
                have hkne : q ≠ b4 := fun e => hqne (by rw [e])
                rw [Below.heap_setCell _ _ _ _ (by show q ≠ b4; exact hkne), Below.heap_setCell _ _ _ _ (by show q ≠ b4; exact hkne)]
              have ownX := ownv.kept GX (by rcases Classical.em (u4.ownBlock = none) with h | h; exact .inl h; exact .inr (fun e => by have := (ownv.lt _ e).1; omega))
              have PX : Only r w1 X := by rw [hX]; exact (PV.set (.inr (by show w1.heap.size ≤ b4; omega)) _).set (.inr (by show w1.heap.size ≤ b4; omega)) _
              have RX : Rd X r pq a len cap := by rw [hX]; exact (RV.set (by show r < b4; omega) _).set (by show r < b4; omega) _
              have zX : X.heap.size = v1.heap.size := by rw [hX]; simp
              obtain ⟨d0', d1'⟩ := blk_2 D4
              obtain ⟨g5, c5, rfl, _, _⟩ := ownX.form (by omega)
              have hg5 := (ownX.lt g5 rfl).1
              have hg5X := (ownX.lt g5 rfl).2
              go_upto_region 12 with fail
              rw [← hX]
              clear hX GX ownv RV PV N4' N7 s1 s2 s5 s6 q0 q1
              have T1 : (X.alloc (.cells #[.int .i64 (ux+f1), .int .i64 (uy+f2)] 42)).ownsRow (b4 + 1) 42 2 (.slice (some ⟨g5, 0, none⟩) l.length c5) l.length (ptCells l) := ownX.alloc _
              have T3 := World.news_of_block (cs := #[.int .i64 (ux + f1), .int .i64 (uy + f2)]) (t := 42) (fr := (0, 0)) (heap_alloc_new X _)
              rw [zX] at T3
              have T4 : (X.alloc (.cells #[.int .i64 (ux+f1), .int .i64 (uy+f2)] 42)).heap.size = X.heap.size + 1 := by simp
              go_wp2_with (at_builtin; refine wpList_append_lies _ rfl _ _ _ rfl (b4 + 1) 42 i0 _ 2 16 Tryd.underlying23 hi0 hz0 hz1 hz2 rfl ?_ _ _ _ ?_ T1 ⟨v1.heap.size, 0, none⟩ 1 1 [.int .i64 (ux + f1), .int .i64 (uy + f2)] ?_ ?_ ?_ ?_ ?_ ?_ ?_ ?_ (X.heap.size + 1) ?_ ?_; (any_goals first | omega | rfl | exact T3 | exact T4 | (simp [Value.oneCell']; done) | (simp [maxLen]; omega) | (simp; omega)); intro gg cap' w8 hown1 hgrow hat hlt1)
              have zw8 := hgrow.size
              rw [World.size_alloc] at zw8
              go_roundw
              case rel =>
                refine ⟨l ++ [(ux + f1, uy + f2)], ux + f1, uy + f2, pq, m', D, rfl, hD, by simp, pb_snoc hPB (pb_of (by omega) (by omega) (by omega) (by omega)), by simp, by simp; omega, ⟨by omega, by omega, by omega, by omega⟩, ?_, by rw [ptCells_snoc, List.length_append]; exact hown1, by omega, (RX.alloc _).grown hgrow (fun j e => by have e' : g5 = j := Option.some.inj e; omega), (PX.alloc _).grown hgrow (fun j e => by have e' : g5 = j := Option.some.inj e; omega), by omega⟩
                exact (hgrow.block b4 (by simp; omega) (fun e => by have e' : b4 = g5 := Option.some.inj e; omega)).trans ((Below.heap_alloc _ _ _ (blk_lt D4)).trans D4)
              case measure => simp [intOf]
        · skip
          refine wpOp_now rfl (by rfl) ?_
          go_simp
          have hS1 : (fun w' : World => (AtC b4 0 (.int .i64 ux) w' ∧ AtC b4 1 (.int .i64 uy) w')) (Y.alloc (.cells #[.int .i64 0, .int .i64 0] 42)) := ⟨cellAl (hS0.1), cellAl (hS0.2)⟩
          have hT : (Y.alloc (.cells #[.int .i64 0, .int .i64 0] 42)).heap[Y.heap.size]? = some (.cells #[.int .i64 0, .int .i64 0] 42) := newBlk (by simp)
          first | refine ⟨hS1, ?_⟩ | refine ⟨hS1.1, hS1.2, ?_⟩ | skip
          refine wpAnyH_all (rs := [2, 9]) (by kernel_rfl) (by simp) ?_
          intro i hi
          have hi' : i = 2 ∨ i = 9 := by simpa using hi
          rcases hi' with rfl | rfl
          · skip
            refine wpOp_now rfl (by rfl) ?_
            go_simp
            have hS2' : (fun w' : World => (AtC b4 0 (.int .i64 ux) w' ∧ AtC b4 1 (.int .i64 uy) w')) ((Y.alloc (.cells #[.int .i64 0, .int .i64 0] 42)).alloc (.cells #[.int .i64 1, .int .i64 0, .int .i64 (-1), .int .i64 0] 3)) := ⟨cellAl (hS1.1), cellAl (hS1.2)⟩
            have hT : ((Y.alloc (.cells #[.int .i64 0, .int .i64 0] 42)).alloc (.cells #[.int .i64 1, .int .i64 0, .int .i64 (-1), .int .i64 0] 3)).heap[Y.heap.size]? = some (.cells #[.int .i64 0, .int .i64 0] 42) := (heap_old _ _ (blk_lt hT)).trans hT
            first | refine ⟨hS2', ?_⟩ | refine ⟨hS2'.1, hS2'.2, ?_⟩ | skip
            have hS2 : (fun w' : World => ((AtC b4 0 (.int .i64 ux) w' ∧ AtC b4 1 (.int .i64 uy) w') ∧ AtC (Y.heap.size + 1) D (.int .i64 f1) w')) ((Y.alloc (.cells #[.int .i64 0, .int .i64 0] 42)).alloc (.cells #[.int .i64 1, .int .i64 0, .int .i64 (-1), .int .i64 0] 3)) := ⟨hS2', newArr (by simp) h1⟩
            refine anyH_grow (S' := fun w' : World => ((AtC b4 0 (.int .i64 ux) w' ∧ AtC b4 1 (.int .i64 uy) w') ∧ AtC (Y.heap.size + 1) D (.int .i64 f1) w')) (fun _ h => h.1) _ _ _ _ ?_
            refine wpAnyH_take (i := 4) (v := .pointer (some ⟨Y.heap.size + 1, D, none⟩)) rfl (by kernel_rfl) (by kernel_rfl) (by kernel_rfl) (fun _ _ _ h => h) (Or.inl ⟨by rfl, by rintro w' ⟨⟨s1, s2⟩, t2⟩; unfold AtC at s1 s2 t2; go_simp⟩) hS2 ?_
            refine wpAnyH_take (i := 5) (v := .int .i64 f1) rfl (by kernel_rfl) (by kernel_rfl) (by kernel_rfl) (fun _ _ _ h => h) (Or.inl ⟨by rfl, by rintro w' ⟨⟨s1, s2⟩, t2⟩; unfold AtC at s1 s2 t2; go_simp⟩) hS2 ?_
            refine wpAnyH_take (i := 6) (v := .int .i64 (ux + f1)) rfl (by kernel_rfl) (by kernel_rfl) (by kernel_rfl) (fun _ _ _ h => h) (Or.inl ⟨by rfl, by rintro w' ⟨⟨s1, s2⟩, t2⟩; unfold AtC at s1 s2 t2; go_simp⟩) hS2 ?_
            refine wpAnyH_all (rs := [9]) (by kernel_rfl) (by simp) ?_
            intro i hi
            obtain rfl : i = 9 := by simpa using hi
            refine wpOp_now rfl (by rfl) ?_
            go_simp
            have hS3' : (fun w' : World => ((AtC b4 0 (.int .i64 ux) w' ∧ AtC b4 1 (.int .i64 uy) w') ∧ AtC (Y.heap.size + 1) D (.int .i64 f1) w')) (((Y.alloc (.cells #[.int .i64 0, .int .i64 0] 42)).alloc (.cells #[.int .i64 1, .int .i64 0, .int .i64 (-1), .int .i64 0] 3)).alloc (.cells #[.int .i64 0, .int .i64 1, .int .i64 0, .int .i64 (-1)] 3)) := ⟨⟨cellAl (hS2.1.1), cellAl (hS2.1.2)⟩, cellAl (hS2.2)⟩
            have hT : (((Y.alloc (.cells #[.int .i64 0, .int .i64 0] 42)).alloc (.cells #[.int .i64 1, .int .i64 0, .int .i64 (-1), .int .i64 0] 3)).alloc (.cells #[.int .i64 0, .int .i64 1, .int .i64 0, .int .i64 (-1)] 3)).heap[Y.heap.size]? = some (.cells #[.int .i64 0, .int .i64 0] 42) := (heap_old _ _ (blk_lt hT)).trans hT
            first | refine ⟨hS3', ?_⟩ | refine ⟨hS3'.1.1, hS3'.1.2, hS3'.2, ?_⟩ | skip
            have hS3 : (fun w' : World => (((AtC b4 0 (.int .i64 ux) w' ∧ AtC b4 1 (.int .i64 uy) w') ∧ AtC (Y.heap.size + 1) D (.int .i64 f1) w') ∧ AtC (Y.heap.size + 1 + 1) D (.int .i64 f2) w')) (((Y.alloc (.cells #[.int .i64 0, .int .i64 0] 42)).alloc (.cells #[.int .i64 1, .int .i64 0, .int .i64 (-1), .int .i64 0] 3)).alloc (.cells #[.int .i64 0, .int .i64 1, .int .i64 0, .int .i64 (-1)] 3)) := ⟨hS3', newArr (by simp) h2⟩
            refine anyH_grow (S' := fun w' : World => (((AtC b4 0 (.int .i64 ux) w' ∧ AtC b4 1 (.int .i64 uy) w') ∧ AtC (Y.heap.size + 1) D (.int .i64 f1) w') ∧ AtC (Y.heap.size + 1 + 1) D (.int .i64 f2) w')) (fun _ h => h.1) _ _ _ _ ?_
            refine wpAnyH_take (i := 11) (v := .pointer (some ⟨Y.heap.size + 1 + 1, D, none⟩)) rfl (by kernel_rfl) (by kernel_rfl) (by kernel_rfl) (fun _ _ _ h => h) (Or.inl ⟨by rfl, by rintro w' ⟨⟨⟨s1, s2⟩, t2⟩, t3⟩; unfold AtC at s1 s2 t2 t3; go_simp⟩) hS3 ?_
            refine wpAnyH_take (i := 12) (v := .int .i64 f2) rfl (by kernel_rfl) (by kernel_rfl) (by kernel_rfl) (fun _ _ _ h => h) (Or.inl ⟨by rfl, by rintro w' ⟨⟨⟨s1, s2⟩, t2⟩, t3⟩; unfold AtC at s1 s2 t2 t3; go_simp⟩) hS3 ?_
            refine wpAnyH_take (i := 13) (v := .int .i64 (uy + f2)) rfl (by kernel_rfl) (by kernel_rfl) (by kernel_rfl) (fun _ _ _ h => h) (Or.inl ⟨by rfl, by rintro w' ⟨⟨⟨s1, s2⟩, t2⟩, t3⟩; unfold AtC at s1 s2 t2 t3; go_simp⟩) hS3 ?_
            refine wpAnyH_take (i := 14) (v := .agg #[.int .i64 (ux + f1), .int .i64 (uy + f2)]) rfl (by kernel_rfl) (by kernel_rfl) (by kernel_rfl) (fun _ _ _ h => h) (Or.inl ⟨by rfl, by rintro w' ⟨⟨⟨s1, s2⟩, t2⟩, t3⟩; unfold AtC at s1 s2 t2 t3; go_simp⟩) hS3 ?_
            refine wpAnyH_all (rs := [16]) (by kernel_rfl) (by simp) ?_
            intro i hi
            obtain rfl : i = 16 := by simpa using hi
            refine wpOp_now rfl (by rfl) ?_
            go_simp
            first | refine ⟨⟨⟨⟨cellAl (cellAl (cellAl (hS0.1))), cellAl (cellAl (cellAl (hS0.2)))⟩, cellAl (newArr (by simp) h1)⟩, newArr (by simp) h2⟩, ?_⟩ | refine ⟨cellAl (cellAl (cellAl (hS0.1))), cellAl (cellAl (cellAl (hS0.2))), cellAl (newArr (by simp) h1), newArr (by simp) h2, ?_⟩ | skip
            refine wpAnyH_done (by kernel_rfl) ?_ _
            refine end_gen (P := fun Wz : World => Wz.heap[Y.heap.size]? = some (.cells #[.int .i64 (ux+f1), .int .i64 (uy+f2)] 42) ∧ Below Y.heap.size Y Wz ∧ Y.heap.size + 3 ≤ Wz.heap.size) ?_ ?_
            · exact ⟨blkAl (blkAl (newBlk (by simp))), by repeat (first | exact bw_refl _ | apply bw_drew | apply bw_alloc), by simp⟩
            rintro Wz ⟨F7, BZ, zZ⟩
            obtain ⟨q0, q1⟩ := blk_2 F7
            have N4 := keep BZ B4
            have ownz := own8.kept (w' := Wz) (row := none) ⟨BZ.os, BZ.tape, BZ.output, BZ.size, fun j hj _ => BZ.block j hj⟩ (Classical.em _)
            have RZ := R.below BZ
            have PZ := P8.trans (Only.of_below BZ)
            clear c0 c1 k2 k3 h1 h2 hS0 hS1 hS2 hS3 BZ P8 own8 R B4
            have hp1 : ∀ b, ptB (ux + f1) (uy + f2) = b → Hid (∀ V, Calls Tryd.prog 54 #[.agg #[.int .i64 (ux+f1), .int .i64 (uy+f2)]] V fun e w' => e = .returned (.bool b) ∧ Below V.heap.size V w') := fun b hb V => by
              have := sPt_any (ux + f1) (uy + f2) V
              rwa [hb] at this
            cases hpt : ptB (ux + f1) (uy + f2)
            · have X1 := hp1 false hpt
              clear hp1 hpt
              go_wp2_with fail
              refine (X1.out _).mono ?_
              rintro e v1 ⟨rfl, J⟩
              go_wp2_with fail
              go_roundw
              case rel => exact ⟨l, ux, uy, pq, m', D, rfl, hD, by simp, hPB, hl1, by omega, ⟨u0, u1, u2, u3⟩, keep J N4, ownz.kept (w' := v1) (row := none) ⟨J.os, J.tape, J.output, J.size, fun j hj _ => J.block j hj⟩ (Classical.em _), by omega, RZ.below J, PZ.trans (Only.of_below J), by have := J.size; omega⟩
              case measure => simp [intOf]
            · have X1 := hp1 true hpt
              obtain ⟨v0, v1', v3', v4'⟩ : 0 ≤ ux + f1 ∧ ux + f1 ≤ 9 ∧ 0 ≤ uy + f2 ∧ uy + f2 ≤ 9 := (ptB_iff _ _).1 hpt
              clear hp1 hpt
              go_wp2_with fail
              refine (X1.out _).mono ?_
              rintro e v1 ⟨rfl, J⟩
              have N4' := keep J N4
              have N7 := keep J F7
              have ownv := ownz.kept (w' := v1) (row := none) ⟨J.os, J.tape, J.output, J.size, fun j hj _ => J.block j hj⟩ (Classical.em _)
              have RV := RZ.below J
              have PV := PZ.trans (Only.of_below J)
              have zv := J.size
              clear N4 F7 ownz RZ PZ J q0 q1
              obtain ⟨s1, s2, s5, s6⟩ := blk2 N4'
              obtain ⟨q0, q1⟩ := blk_2 N7
              obtain ⟨X, hX⟩ : ∃ X, X = (v1.setCell ⟨b4, 0, none⟩ (.int .i64 (ux + f1))).setCell ⟨b4, 1, none⟩ (.int .i64 (uy + f2)) := ⟨_, rfl⟩
              have D4 : X.heap[b4]? = some (.cells #[.int .i64 (ux+f1), .int .i64 (uy+f2)] 42) := by rw [hX]; exact setP2 N4'
              have GX : v1.grownBy X (some b4) := by
                rw [hX]
                refine ⟨rfl, rfl, rfl, by simp, fun q hq hqne => ?_⟩
                have hkne : q ≠ b4 := fun e => hqne (by rw [e])
                rw [Below.heap_setCell _ _ _ _ (by show q ≠ b4; exact hkne), Below.heap_setCell _ _ _ _ (by show q ≠ b4; exact hkne)]
              have ownX := ownv.kept GX (by rcases Classical.em (u4.ownBlock = none) with h | h; exact .inl h; exact .inr (fun e => by have := (ownv.lt _ e).1; omega))
              have PX : Only r w1 X := by rw [hX]; exact (PV.set (.inr (by show w1.heap.size ≤ b4; omega)) _).set (.inr (by show w1.heap.size ≤ b4; omega)) _
              have RX : Rd X r pq a len cap := by rw [hX]; exact (RV.set (by show r < b4; omega) _).set (by show r < b4; omega) _
              have zX : X.heap.size = v1.heap.size := by rw [hX]; simp
              obtain ⟨d0', d1'⟩ := blk_2 D4
              obtain ⟨g5, c5, rfl, _, _⟩ := ownX.form (by omega)
              have hg5 := (ownX.lt g5 rfl).1
              have hg5X := (ownX.lt g5 rfl).2
              go_upto_region 12 with fail
              rw [← hX]
              clear hX GX ownv RV PV N4' N7 s1 s2 s5 s6 q0 q1
              have T1 : (X.alloc (.cells #[.int .i64 (ux+f1), .int .i64 (uy+f2)] 42)).ownsRow (b4 + 1) 42 2 (.slice (some ⟨g5, 0, none⟩) l.length c5) l.length (ptCells l) := ownX.alloc _
              have T3 := World.news_of_block (cs := #[.int .i64 (ux + f1), .int .i64 (uy + f2)]) (t := 42) (fr := (0, 0)) (heap_alloc_new X _)
              rw [zX] at T3
              have T4 : (X.alloc (.cells #[.int .i64 (ux+f1), .int .i64 (uy+f2)] 42)).heap.size = X.heap.size + 1 := by simp
              go_wp2_with (at_builtin; refine wpList_append_lies _ rfl _ _ _ rfl (b4 + 1) 42 i0 _ 2 16 Tryd.underlying23 hi0 hz0 hz1 hz2 rfl ?_ _ _ _ ?_ T1 ⟨v1.heap.size, 0, none⟩ 1 1 [.int .i64 (ux + f1), .int .i64 (uy + f2)] ?_ ?_ ?_ ?_ ?_ ?_ ?_ ?_ (X.heap.size + 1) ?_ ?_; (any_goals first | omega | rfl | exact T3 | exact T4 | (simp [Value.oneCell']; done) | (simp [maxLen]; omega) | (simp; omega)); intro gg cap' w8 hown1 hgrow hat hlt1)
              have zw8 := hgrow.size
              rw [World.size_alloc] at zw8
              go_roundw
              case rel =>
                refine ⟨l ++ [(ux + f1, uy + f2)], ux + f1, uy + f2, pq, m', D, rfl, hD, by simp, pb_snoc hPB (pb_of (by omega) (by omega) (by omega) (by omega)), by simp, by simp; omega, ⟨by omega, by omega, by omega, by omega⟩, ?_, by rw [ptCells_snoc, List.length_append]; exact hown1, by omega, (RX.alloc _).grown hgrow (fun j e => by have e' : g5 = j := Option.some.inj e; omega), (PX.alloc _).grown hgrow (fun j e => by have e' : g5 = j := Option.some.inj e; omega), by omega⟩
                exact (hgrow.block b4 (by simp; omega) (fun e => by have e' : b4 = g5 := Option.some.inj e; omega)).trans ((Below.heap_alloc _ _ _ (blk_lt D4)).trans D4)
              case measure => simp [intOf]
          · skip
            refine wpOp_now rfl (by rfl) ?_
            go_simp
            have hS2' : (fun w' : World => (AtC b4 0 (.int .i64 ux) w' ∧ AtC b4 1 (.int .i64 uy) w')) ((Y.alloc (.cells #[.int .i64 0, .int .i64 0] 42)).alloc (.cells #[.int .i64 0, .int .i64 1, .int .i64 0, .int .i64 (-1)] 3)) := ⟨cellAl (hS1.1), cellAl (hS1.2)⟩
            have hT : ((Y.alloc (.cells #[.int .i64 0, .int .i64 0] 42)).alloc (.cells #[.int .i64 0, .int .i64 1, .int .i64 0, .int .i64 (-1)] 3)).heap[Y.heap.size]? = some (.cells #[.int .i64 0, .int .i64 0] 42) := (heap_old _ _ (blk_lt hT)).trans hT
            first | refine ⟨hS2', ?_⟩ | refine ⟨hS2'.1, hS2'.2, ?_⟩ | skip
            have hS2 : (fun w' : World => ((AtC b4 0 (.int .i64 ux) w' ∧ AtC b4 1 (.int .i64 uy) w') ∧ AtC (Y.heap.size + 1) D (.int .i64 f2) w')) ((Y.alloc (.cells #[.int .i64 0, .int .i64 0] 42)).alloc (.cells #[.int .i64 0, .int .i64 1, .int .i64 0, .int .i64 (-1)] 3)) := ⟨hS2', newArr (by simp) h2⟩
            refine anyH_grow (S' := fun w' : World => ((AtC b4 0 (.int .i64 ux) w' ∧ AtC b4 1 (.int .i64 uy) w') ∧ AtC (Y.heap.size + 1) D (.int .i64 f2) w')) (fun _ h => h.1) _ _ _ _ ?_
            refine wpAnyH_take (i := 11) (v := .pointer (some ⟨Y.heap.size + 1, D, none⟩)) rfl (by kernel_rfl) (by kernel_rfl) (by kernel_rfl) (fun _ _ _ h => h) (Or.inl ⟨by rfl, by rintro w' ⟨⟨s1, s2⟩, t2⟩; unfold AtC at s1 s2 t2; go_simp⟩) hS2 ?_
            refine wpAnyH_take (i := 12) (v := .int .i64 f2) rfl (by kernel_rfl) (by kernel_rfl) (by kernel_rfl) (fun _ _ _ h => h) (Or.inl ⟨by rfl, by rintro w' ⟨⟨s1, s2⟩, t2⟩; unfold AtC at s1 s2 t2; go_simp⟩) hS2 ?_
            refine wpAnyH_take (i := 13) (v := .int .i64 (uy + f2)) rfl (by kernel_rfl) (by kernel_rfl) (by kernel_rfl) (fun _ _ _ h => h) (Or.inl ⟨by rfl, by rintro w' ⟨⟨s1, s2⟩, t2⟩; unfold AtC at s1 s2 t2; go_simp⟩) hS2 ?_
            refine wpAnyH_all (rs := [2]) (by kernel_rfl) (by simp) ?_
            intro i hi
            obtain rfl : i = 2 := by simpa using hi
            refine wpOp_now rfl (by rfl) ?_
            go_simp
            have hS3' : (fun w' : World => ((AtC b4 0 (.int .i64 ux) w' ∧ AtC b4 1 (.int .i64 uy) w') ∧ AtC (Y.heap.size + 1) D (.int .i64 f2) w')) (((Y.alloc (.cells #[.int .i64 0, .int .i64 0] 42)).alloc (.cells #[.int .i64 0, .int .i64 1, .int .i64 0, .int .i64 (-1)] 3)).alloc (.cells #[.int .i64 1, .int .i64 0, .int .i64 (-1), .int .i64 0] 3)) := ⟨⟨cellAl (hS2.1.1), cellAl (hS2.1.2)⟩, cellAl (hS2.2)⟩
            have hT : (((Y.alloc (.cells #[.int .i64 0, .int .i64 0] 42)).alloc (.cells #[.int .i64 0, .int .i64 1, .int .i64 0, .int .i64 (-1)] 3)).alloc (.cells #[.int .i64 1, .int .i64 0, .int .i64 (-1), .int .i64 0] 3)).heap[Y.heap.size]? = some (.cells #[.int .i64 0, .int .i64 0] 42) := (heap_old _ _ (blk_lt hT)).trans hT
            first | refine ⟨hS3', ?_⟩ | refine ⟨hS3'.1.1, hS3'.1.2, hS3'.2, ?_⟩ | skip
            have hS3 : (fun w' : World => (((AtC b4 0 (.int .i64 ux) w' ∧ AtC b4 1 (.int .i64 uy) w') ∧ AtC (Y.heap.size + 1) D (.int .i64 f2) w') ∧ AtC (Y.heap.size + 1 + 1) D (.int .i64 f1) w')) (((Y.alloc (.cells #[.int .i64 0, .int .i64 0] 42)).alloc (.cells #[.int .i64 0, .int .i64 1, .int .i64 0, .int .i64 (-1)] 3)).alloc (.cells #[.int .i64 1, .int .i64 0, .int .i64 (-1), .int .i64 0] 3)) := ⟨hS3', newArr (by simp) h1⟩
            refine anyH_grow (S' := fun w' : World => (((AtC b4 0 (.int .i64 ux) w' ∧ AtC b4 1 (.int .i64 uy) w') ∧ AtC (Y.heap.size + 1) D (.int .i64 f2) w') ∧ AtC (Y.heap.size + 1 + 1) D (.int .i64 f1) w')) (fun _ h => h.1) _ _ _ _ ?_
            refine wpAnyH_take (i := 4) (v := .pointer (some ⟨Y.heap.size + 1 + 1, D, none⟩)) rfl (by kernel_rfl) (by kernel_rfl) (by kernel_rfl) (fun _ _ _ h => h) (Or.inl ⟨by rfl, by rintro w' ⟨⟨⟨s1, s2⟩, t2⟩, t3⟩; unfold AtC at s1 s2 t2 t3; go_simp⟩) hS3 ?_
            refine wpAnyH_take (i := 5) (v := .int .i64 f1) rfl (by kernel_rfl) (by kernel_rfl) (by kernel_rfl) (fun _ _ _ h => h) (Or.inl ⟨by rfl, by rintro w' ⟨⟨⟨s1, s2⟩, t2⟩, t3⟩; unfold AtC at s1 s2 t2 t3; go_simp⟩) hS3 ?_
            refine wpAnyH_take (i := 6) (v := .int .i64 (ux + f1)) rfl (by kernel_rfl) (by kernel_rfl) (by kernel_rfl) (fun _ _ _ h => h) (Or.inl ⟨by rfl, by rintro w' ⟨⟨⟨s1, s2⟩, t2⟩, t3⟩; unfold AtC at s1 s2 t2 t3; go_simp⟩) hS3 ?_
            refine wpAnyH_take (i := 14) (v := .agg #[.int .i64 (ux + f1), .int .i64 (uy + f2)]) rfl (by kernel_rfl) (by kernel_rfl) (by kernel_rfl) (fun _ _ _ h => h) (Or.inl ⟨by rfl, by rintro w' ⟨⟨⟨s1, s2⟩, t2⟩, t3⟩; unfold AtC at s1 s2 t2 t3; go_simp⟩) hS3 ?_
            refine wpAnyH_all (rs := [16]) (by kernel_rfl) (by simp) ?_
            intro i hi
            obtain rfl : i = 16 := by simpa using hi
            refine wpOp_now rfl (by rfl) ?_
            go_simp
            first | refine ⟨⟨⟨⟨cellAl (cellAl (cellAl (hS0.1))), cellAl (cellAl (cellAl (hS0.2)))⟩, cellAl (newArr (by simp) h2)⟩, newArr (by simp) h1⟩, ?_⟩ | refine ⟨cellAl (cellAl (cellAl (hS0.1))), cellAl (cellAl (cellAl (hS0.2))), cellAl (newArr (by simp) h2), newArr (by simp) h1, ?_⟩ | skip
            refine wpAnyH_done (by kernel_rfl) ?_ _
            refine end_gen (P := fun Wz : World => Wz.heap[Y.heap.size]? = some (.cells #[.int .i64 (ux+f1), .int .i64 (uy+f2)] 42) ∧ Below Y.heap.size Y Wz ∧ Y.heap.size + 3 ≤ Wz.heap.size) ?_ ?_
            · exact ⟨blkAl (blkAl (newBlk (by simp))), by repeat (first | exact bw_refl _ | apply bw_drew | apply bw_alloc), by simp⟩
            rintro Wz ⟨F7, BZ, zZ⟩
            obtain ⟨q0, q1⟩ := blk_2 F7
            have N4 := keep BZ B4
            have ownz := own8.kept (w' := Wz) (row := none) ⟨BZ.os, BZ.tape, BZ.output, BZ.size, fun j hj _ => BZ.block j hj⟩ (Classical.em _)
            have RZ := R.below BZ
            have PZ := P8.trans (Only.of_below BZ)
            clear c0 c1 k2 k3 h1 h2 hS0 hS1 hS2 hS3 BZ P8 own8 R B4
            have hp1 : ∀ b, ptB (ux + f1) (uy + f2) = b → Hid (∀ V, Calls Tryd.prog 54 #[.agg #[.int .i64 (ux+f1), .int .i64 (uy+f2)]] V fun e w' => e = .returned (.bool b) ∧ Below V.heap.size V w') := fun b hb V => by
              have := sPt_any (ux + f1) (uy + f2) V
              rwa [hb] at this
            cases hpt : ptB (ux + f1) (uy + f2)
            · have X1 := hp1 false hpt
              clear hp1 hpt
              go_wp2_with fail
              refine (X1.out _).mono ?_
              rintro e v1 ⟨rfl, J⟩
              go_wp2_with fail
              go_roundw
              case rel => exact ⟨l, ux, uy, pq, m', D, rfl, hD, by simp, hPB, hl1, by omega, ⟨u0, u1, u2, u3⟩, keep J N4, ownz.kept (w' := v1) (row := none) ⟨J.os, J.tape, J.output, J.size, fun j hj _ => J.block j hj⟩ (Classical.em _), by omega, RZ.below J, PZ.trans (Only.of_below J), by have := J.size; omega⟩
              case measure => simp [intOf]
            · have X1 := hp1 true hpt
              obtain ⟨v0, v1', v3', v4'⟩ : 0 ≤ ux + f1 ∧ ux + f1 ≤ 9 ∧ 0 ≤ uy + f2 ∧ uy + f2 ≤ 9 := (ptB_iff _ _).1 hpt
              clear hp1 hpt
              go_wp2_with fail
              refine (X1.out _).mono ?_
              rintro e v1 ⟨rfl, J⟩
              have N4' := keep J N4
              have N7 := keep J F7
              have ownv := ownz.kept (w' := v1) (row := none) ⟨J.os, J.tape, J.output, J.size, fun j hj _ => J.block j hj⟩ (Classical.em _)
              have RV := RZ.below J
              have PV := PZ.trans (Only.of_below J)
              have zv := J.size
              clear N4 F7 ownz RZ PZ J q0 q1
              obtain ⟨s1, s2, s5, s6⟩ := blk2 N4'
              obtain ⟨q0, q1⟩ := blk_2 N7
              obtain ⟨X, hX⟩ : ∃ X, X = (v1.setCell ⟨b4, 0, none⟩ (.int .i64 (ux + f1))).setCell ⟨b4, 1, none⟩ (.int .i64 (uy + f2)) := ⟨_, rfl⟩
              have D4 : X.heap[b4]? = some (.cells #[.int .i64 (ux+f1), .int .i64 (uy+f2)] 42) := by rw [hX]; exact setP2 N4'
              have GX : v1.grownBy X (some b4) := by
                rw [hX]
                refine ⟨rfl, rfl, rfl, by simp, fun q hq hqne => ?_⟩
                have hkne : q ≠ b4 := fun e => hqne (by rw [e])
                rw [Below.heap_setCell _ _ _ _ (by show q ≠ b4; exact hkne), Below.heap_setCell _ _ _ _ (by show q ≠ b4; exact hkne)]
              have ownX := ownv.kept GX (by rcases Classical.em (u4.ownBlock = none) with h | h; exact .inl h; exact .inr (fun e => by have := (ownv.lt _ e).1; omega))
              have PX : Only r w1 X := by rw [hX]; exact (PV.set (.inr (by show w1.heap.size ≤ b4; omega)) _).set (.inr (by show w1.heap.size ≤ b4; omega)) _
              have RX : Rd X r pq a len cap := by rw [hX]; exact (RV.set (by show r < b4; omega) _).set (by show r < b4; omega) _
              have zX : X.heap.size = v1.heap.size := by rw [hX]; simp
              obtain ⟨d0', d1'⟩ := blk_2 D4
              obtain ⟨g5, c5, rfl, _, _⟩ := ownX.form (by omega)
              have hg5 := (ownX.lt g5 rfl).1
              have hg5X := (ownX.lt g5 rfl).2
              go_upto_region 12 with fail
              rw [← hX]
              clear hX GX ownv RV PV N4' N7 s1 s2 s5 s6 q0 q1
              have T1 : (X.alloc (.cells #[.int .i64 (ux+f1), .int .i64 (uy+f2)] 42)).ownsRow (b4 + 1) 42 2 (.slice (some ⟨g5, 0, none⟩) l.length c5) l.length (ptCells l) := ownX.alloc _
              have T3 := World.news_of_block (cs := #[.int .i64 (ux + f1), .int .i64 (uy + f2)]) (t := 42) (fr := (0, 0)) (heap_alloc_new X _)
              rw [zX] at T3
              have T4 : (X.alloc (.cells #[.int .i64 (ux+f1), .int .i64 (uy+f2)] 42)).heap.size = X.heap.size + 1 := by simp
              go_wp2_with (at_builtin; refine wpList_append_lies _ rfl _ _ _ rfl (b4 + 1) 42 i0 _ 2 16 Tryd.underlying23 hi0 hz0 hz1 hz2 rfl ?_ _ _ _ ?_ T1 ⟨v1.heap.size, 0, none⟩ 1 1 [.int .i64 (ux + f1), .int .i64 (uy + f2)] ?_ ?_ ?_ ?_ ?_ ?_ ?_ ?_ (X.heap.size + 1) ?_ ?_; (any_goals first | omega | rfl | exact T3 | exact T4 | (simp [Value.oneCell']; done) | (simp [maxLen]; omega) | (simp; omega)); intro gg cap' w8 hown1 hgrow hat hlt1)
              have zw8 := hgrow.size
              rw [World.size_alloc] at zw8
              go_roundw
              case rel =>
                refine ⟨l ++ [(ux + f1, uy + f2)], ux + f1, uy + f2, pq, m', D, rfl, hD, by simp, pb_snoc hPB (pb_of (by omega) (by omega) (by omega) (by omega)), by simp, by simp; omega, ⟨by omega, by omega, by omega, by omega⟩, ?_, by rw [ptCells_snoc, List.length_append]; exact hown1, by omega, (RX.alloc _).grown hgrow (fun j e => by have e' : g5 = j := Option.some.inj e; omega), (PX.alloc _).grown hgrow (fun j e => by have e' : g5 = j := Option.some.inj e; omega), by omega⟩
                exact (hgrow.block b4 (by simp; omega) (fun e => by have e' : b4 = g5 := Option.some.inj e; omega)).trans ((Below.heap_alloc _ _ _ (blk_lt D4)).trans D4)
              case measure => simp [intOf]
      · have y1 : (v2 == 0) = false := by simpa using hv
        have y2 : (v2 = 0) = False := by simpa using hv
        clear hv
        have own8 := own7
        have P8 := P7
        obtain ⟨Y, hY⟩ : ∃ Y, Y = w7 := ⟨_, rfl⟩
        rw [← hY] at B4 own8 P8 z7 R
        go_wp2_with fail
        rw [← hY]
        have hp2 : p + 1 + 10 * m' ≤ 1995 := by omega
        obtain ⟨pq, hpq⟩ : ∃ pq, pq = p + 1 := ⟨_, rfl⟩
        rw [← hpq] at R hp2
        have zY : b4 + 2 ≤ Y.heap.size := by omega
        clear hY O7 hpq z7 own7 P7
        obtain ⟨f1, h1, b1⟩ := dirX D hD
        obtain ⟨f2, h2, b2⟩ := dirY D hD
        obtain ⟨c0, c1⟩ := blk_2 B4
        have k2 : IntKind.i64.wrap (ux + f1) = ux + f1 := wrap_small (by omega) (by omega)
        have k3 : IntKind.i64.wrap (uy + f2) = uy + f2 := wrap_small (by omega) (by omega)
        have i2 : (0 : Int) ≤ (D : Int) := Int.natCast_nonneg _
        have i3 : (D : Int) < 4 := by omega
        have hS0 : (fun w' : World => (AtC b4 0 (.int .i64 ux) w' ∧ AtC b4 1 (.int .i64 uy) w')) Y := ⟨c0, c1⟩
        refine wp_region_held (S := fun w' : World => (AtC b4 0 (.int .i64 ux) w' ∧ AtC b4 1 (.int .i64 uy) w')) hmx ?_
        refine wpAnyH_take (i := 0) (v := .pointer (some ⟨b4, 0, none⟩)) rfl (by kernel_rfl) (by kernel_rfl) (by kernel_rfl) (fun _ _ _ h => h) (Or.inl ⟨by rfl, by rintro w' ⟨s1, s2⟩; unfold AtC at s1 s2; go_simp⟩) hS0 ?_
        refine wpAnyH_take (i := 1) (v := .int .i64 ux) rfl (by kernel_rfl) (by kernel_rfl) (by kernel_rfl) (fun _ _ _ h => h) (Or.inl ⟨by rfl, by rintro w' ⟨s1, s2⟩; unfold AtC at s1 s2; go_simp⟩) hS0 ?_
        refine wpAnyH_take (i := 3) (v := .int .i64 (D : Int)) rfl (by kernel_rfl) (by kernel_rfl) (by kernel_rfl) (fun _ _ _ h => h) (Or.inl ⟨by rfl, by rintro w' ⟨s1, s2⟩; unfold AtC at s1 s2; go_simp⟩) hS0 ?_
        refine wpAnyH_take (i := 7) (v := .pointer (some ⟨b4, 1, none⟩)) rfl (by kernel_rfl) (by kernel_rfl) (by kernel_rfl) (fun _ _ _ h => h) (Or.inl ⟨by rfl, by rintro w' ⟨s1, s2⟩; unfold AtC at s1 s2; go_simp⟩) hS0 ?_
        refine wpAnyH_take (i := 8) (v := .int .i64 uy) rfl (by kernel_rfl) (by kernel_rfl) (by kernel_rfl) (fun _ _ _ h => h) (Or.inl ⟨by rfl, by rintro w' ⟨s1, s2⟩; unfold AtC at s1 s2; go_simp⟩) hS0 ?_
        refine wpAnyH_take (i := 10) (v := .int .i64 (D : Int)) rfl (by kernel_rfl) (by kernel_rfl) (by kernel_rfl) (fun _ _ _ h => h) (Or.inl ⟨by rfl, by rintro w' ⟨s1, s2⟩; unfold AtC at s1 s2; go_simp⟩) hS0 ?_
        refine wpAnyH_all (rs := [2, 9, 15]) (by kernel_rfl) (by simp) ?_
        intro i hi
        have hi' : i = 2 ∨ i = 9 ∨ i = 15 := by simpa using hi
        rcases hi' with rfl | rfl | rfl
        · skip
          refine wpOp_now rfl (by rfl) ?_
          go_simp
          have hS1' : (fun w' : World => (AtC b4 0 (.int .i64 ux) w' ∧ AtC b4 1 (.int .i64 uy) w')) (Y.alloc (.cells #[.int .i64 1, .int .i64 0, .int .i64 (-1), .int .i64 0] 3)) := ⟨cellAl (hS0.1), cellAl (hS0.2)⟩
          first | refine ⟨hS1', ?_⟩ | refine ⟨hS1'.1, hS1'.2, ?_⟩ | skip
          have hS1 : (fun w' : World => ((AtC b4 0 (.int .i64 ux) w' ∧ AtC b4 1 (.int .i64 uy) w') ∧ AtC (Y.heap.size) D (.int .i64 f1) w')) (Y.alloc (.cells #[.int .i64 1, .int .i64 0, .int .i64 (-1), .int .i64 0] 3)) := ⟨hS1', newArr (by simp) h1⟩
          refine anyH_grow (S' := fun w' : World => ((AtC b4 0 (.int .i64 ux) w' ∧ AtC b4 1 (.int .i64 uy) w') ∧ AtC (Y.heap.size) D (.int .i64 f1) w')) (fun _ h => h.1) _ _ _ _ ?_
          refine wpAnyH_take (i := 4) (v := .pointer (some ⟨Y.heap.size, D, none⟩)) rfl (by kernel_rfl) (by kernel_rfl) (by kernel_rfl) (fun _ _ _ h => h) (Or.inl ⟨by rfl, by rintro w' ⟨⟨s1, s2⟩, t1⟩; unfold AtC at s1 s2 t1; go_simp⟩) hS1 ?_
          refine wpAnyH_take (i := 5) (v := .int .i64 f1) rfl (by kernel_rfl) (by kernel_rfl) (by kernel_rfl) (fun _ _ _ h => h) (Or.inl ⟨by rfl, by rintro w' ⟨⟨s1, s2⟩, t1⟩; unfold AtC at s1 s2 t1; go_simp⟩) hS1 ?_
          refine wpAnyH_take (i := 6) (v := .int .i64 (ux + f1)) rfl (by kernel_rfl) (by kernel_rfl) (by kernel_rfl) (fun _ _ _ h => h) (Or.inl ⟨by rfl, by rintro w' ⟨⟨s1, s2⟩, t1⟩; unfold AtC at s1 s2 t1; go_simp⟩) hS1 ?_
          refine wpAnyH_all (rs := [9, 15]) (by kernel_rfl) (by simp) ?_
          intro i hi
          have hi' : i = 9 ∨ i = 15 := by simpa using hi
          rcases hi' with rfl | rfl
          · skip
            refine wpOp_now rfl (by rfl) ?_
            go_simp
            have hS2' : (fun w' : World => ((AtC b4 0 (.int .i64 ux) w' ∧ AtC b4 1 (.int .i64 uy) w') ∧ AtC (Y.heap.size) D (.int .i64 f1) w')) ((Y.alloc (.cells #[.int .i64 1, .int .i64 0, .int .i64 (-1), .int .i64 0] 3)).alloc (.cells #[.int .i64 0, .int .i64 1, .int .i64 0, .int .i64 (-1)] 3)) := ⟨⟨cellAl (hS1.1.1), cellAl (hS1.1.2)⟩, cellAl (hS1.2)⟩
            first | refine ⟨hS2', ?_⟩ | refine ⟨hS2'.1.1, hS2'.1.2, hS2'.2, ?_⟩ | skip
            have hS2 : (fun w' : World => (((AtC b4 0 (.int .i64 ux) w' ∧ AtC b4 1 (.int .i64 uy) w') ∧ AtC (Y.heap.size) D (.int .i64 f1) w') ∧ AtC (Y.heap.size + 1) D (.int .i64 f2) w')) ((Y.alloc (.cells #[.int .i64 1, .int .i64 0, .int .i64 (-1), .int .i64 0] 3)).alloc (.cells #[.int .i64 0, .int .i64 1, .int .i64 0, .int .i64 (-1)] 3)) := ⟨hS2', newArr (by simp) h2⟩
            refine anyH_grow (S' := fun w' : World => (((AtC b4 0 (.int .i64 ux) w' ∧ AtC b4 1 (.int .i64 uy) w') ∧ AtC (Y.heap.size) D (.int .i64 f1) w') ∧ AtC (Y.heap.size + 1) D (.int .i64 f2) w')) (fun _ h => h.1) _ _ _ _ ?_
            refine wpAnyH_take (i := 11) (v := .pointer (some ⟨Y.heap.size + 1, D, none⟩)) rfl (by kernel_rfl) (by kernel_rfl) (by kernel_rfl) (fun _ _ _ h => h) (Or.inl ⟨by rfl, by rintro w' ⟨⟨⟨s1, s2⟩, t1⟩, t2⟩; unfold AtC at s1 s2 t1 t2; go_simp⟩) hS2 ?_
            refine wpAnyH_take (i := 12) (v := .int .i64 f2) rfl (by kernel_rfl) (by kernel_rfl) (by kernel_rfl) (fun _ _ _ h => h) (Or.inl ⟨by rfl, by rintro w' ⟨⟨⟨s1, s2⟩, t1⟩, t2⟩; unfold AtC at s1 s2 t1 t2; go_simp⟩) hS2 ?_
            refine wpAnyH_take (i := 13) (v := .int .i64 (uy + f2)) rfl (by kernel_rfl) (by kernel_rfl) (by kernel_rfl) (fun _ _ _ h => h) (Or.inl ⟨by rfl, by rintro w' ⟨⟨⟨s1, s2⟩, t1⟩, t2⟩; unfold AtC at s1 s2 t1 t2; go_simp⟩) hS2 ?_
            refine wpAnyH_take (i := 14) (v := .agg #[.int .i64 (ux + f1), .int .i64 (uy + f2)]) rfl (by kernel_rfl) (by kernel_rfl) (by kernel_rfl) (fun _ _ _ h => h) (Or.inl ⟨by rfl, by rintro w' ⟨⟨⟨s1, s2⟩, t1⟩, t2⟩; unfold AtC at s1 s2 t1 t2; go_simp⟩) hS2 ?_
            refine wpAnyH_all (rs := [15]) (by kernel_rfl) (by simp) ?_
            intro i hi
            obtain rfl : i = 15 := by simpa using hi
            refine wpOp_now rfl (by rfl) ?_
            go_simp
            have hS3 : (fun w' : World => (((AtC b4 0 (.int .i64 ux) w' ∧ AtC b4 1 (.int .i64 uy) w') ∧ AtC (Y.heap.size) D (.int .i64 f1) w') ∧ AtC (Y.heap.size + 1) D (.int .i64 f2) w')) (((Y.alloc (.cells #[.int .i64 1, .int .i64 0, .int .i64 (-1), .int .i64 0] 3)).alloc (.cells #[.int .i64 0, .int .i64 1, .int .i64 0, .int .i64 (-1)] 3)).alloc (.cells #[.int .i64 0, .int .i64 0] 42)) := ⟨⟨⟨cellAl (hS2.1.1.1), cellAl (hS2.1.1.2)⟩, cellAl (hS2.1.2)⟩, cellAl (hS2.2)⟩
            have hT : (((Y.alloc (.cells #[.int .i64 1, .int .i64 0, .int .i64 (-1), .int .i64 0] 3)).alloc (.cells #[.int .i64 0, .int .i64 1, .int .i64 0, .int .i64 (-1)] 3)).alloc (.cells #[.int .i64 0, .int .i64 0] 42)).heap[Y.heap.size + 1 + 1]? = some (.cells #[.int .i64 0, .int .i64 0] 42) := newBlk (by simp)
            first | refine ⟨hS3, ?_⟩ | refine ⟨hS3.1.1.1, hS3.1.1.2, hS3.1.2, hS3.2, ?_⟩ | skip
            refine wpAnyH_all (rs := [16]) (by kernel_rfl) (by simp) ?_
            intro i hi
            obtain rfl : i = 16 := by simpa using hi
            refine wpOp_now rfl (by rfl) ?_
            go_simp
            first | refine ⟨⟨⟨⟨cellAl (hS2.1.1.1), cellAl (hS2.1.1.2)⟩, cellAl (hS2.1.2)⟩, cellAl (hS2.2)⟩, ?_⟩ | refine ⟨cellAl (hS2.1.1.1), cellAl (hS2.1.1.2), cellAl (hS2.1.2), cellAl (hS2.2), ?_⟩ | skip
            refine wpAnyH_done (by kernel_rfl) ?_ _
            refine end_gen (P := fun Wz : World => Wz.heap[Y.heap.size + 1 + 1]? = some (.cells #[.int .i64 (ux+f1), .int .i64 (uy+f2)] 42) ∧ Below Y.heap.size Y Wz ∧ Y.heap.size + 3 ≤ Wz.heap.size) ?_ ?_
            · exact ⟨newBlk (by simp), by repeat (first | exact bw_refl _ | apply bw_drew | apply bw_alloc), by simp⟩
            rintro Wz ⟨F7, BZ, zZ⟩
            obtain ⟨q0, q1⟩ := blk_2 F7
            have N4 := keep BZ B4
            have ownz := own8.kept (w' := Wz) (row := none) ⟨BZ.os, BZ.tape, BZ.output, BZ.size, fun j hj _ => BZ.block j hj⟩ (Classical.em _)
            have RZ := R.below BZ
            have PZ := P8.trans (Only.of_below BZ)
            clear c0 c1 k2 k3 h1 h2 hS0 hS1 hS2 hS3 BZ P8 own8 R B4
            have hp1 : ∀ b, ptB (ux + f1) (uy + f2) = b → Hid (∀ V, Calls Tryd.prog 54 #[.agg #[.int .i64 (ux+f1), .int .i64 (uy+f2)]] V fun e w' => e = .returned (.bool b) ∧ Below V.heap.size V w') := fun b hb V => by
              have := sPt_any (ux + f1) (uy + f2) V
              rwa [hb] at this
            cases hpt : ptB (ux + f1) (uy + f2)
            · have X1 := hp1 false hpt
              clear hp1 hpt
              go_wp2_with fail
              refine (X1.out _).mono ?_
              rintro e v1 ⟨rfl, J⟩
              go_wp2_with fail
              go_roundw
              case rel => exact ⟨l, ux, uy, pq, m', D, rfl, hD, by simp, hPB, hl1, by omega, ⟨u0, u1, u2, u3⟩, keep J N4, ownz.kept (w' := v1) (row := none) ⟨J.os, J.tape, J.output, J.size, fun j hj _ => J.block j hj⟩ (Classical.em _), by omega, RZ.below J, PZ.trans (Only.of_below J), by have := J.size; omega⟩
              case measure => simp [intOf]
            · have X1 := hp1 true hpt
              obtain ⟨v0, v1', v3', v4'⟩ : 0 ≤ ux + f1 ∧ ux + f1 ≤ 9 ∧ 0 ≤ uy + f2 ∧ uy + f2 ≤ 9 := (ptB_iff _ _).1 hpt
              clear hp1 hpt
              go_wp2_with fail
              refine (X1.out _).mono ?_
              rintro e v1 ⟨rfl, J⟩
              have N4' := keep J N4
              have N7 := keep J F7
              have ownv := ownz.kept (w' := v1) (row := none) ⟨J.os, J.tape, J.output, J.size, fun j hj _ => J.block j hj⟩ (Classical.em _)
              have RV := RZ.below J
              have PV := PZ.trans (Only.of_below J)
              have zv := J.size
              clear N4 F7 ownz RZ PZ J q0 q1
              obtain ⟨s1, s2, s5, s6⟩ := blk2 N4'
              obtain ⟨q0, q1⟩ := blk_2 N7
              obtain ⟨X, hX⟩ : ∃ X, X = (v1.setCell ⟨b4, 0, none⟩ (.int .i64 (ux + f1))).setCell ⟨b4, 1, none⟩ (.int .i64 (uy + f2)) := ⟨_, rfl⟩
              have D4 : X.heap[b4]? = some (.cells #[.int .i64 (ux+f1), .int .i64 (uy+f2)] 42) := by rw [hX]; exact setP2 N4'
              have GX : v1.grownBy X (some b4) := by
                rw [hX]
                refine ⟨rfl, rfl, rfl, by simp, fun q hq hqne => ?_⟩
                have hkne : q ≠ b4 := fun e => hqne (by rw [e])
                rw [Below.heap_setCell _ _ _ _ (by show q ≠ b4; exact hkne), Below.heap_setCell _ _ _ _ (by show q ≠ b4; exact hkne)]
              have ownX := ownv.kept GX (by rcases Classical.em (u4.ownBlock = none) with h | h; exact .inl h; exact .inr (fun e => by have := (ownv.lt _ e).1; omega))
              have PX : Only r w1 X := by rw [hX]; exact (PV.set (.inr (by show w1.heap.size ≤ b4; omega)) _).set (.inr (by show w1.heap.size ≤ b4; omega)) _
              have RX : Rd X r pq a len cap := by rw [hX]; exact (RV.set (by show r < b4; omega) _).set (by show r < b4; omega) _
              have zX : X.heap.size = v1.heap.size := by rw [hX]; simp
              obtain ⟨d0', d1'⟩ := blk_2 D4
              obtain ⟨g5, c5, rfl, _, _⟩ := ownX.form (by omega)
              have hg5 := (ownX.lt g5 rfl).1
              have hg5X := (ownX.lt g5 rfl).2
              go_upto_region 12 with fail
              rw [← hX]
              clear hX GX ownv RV PV N4' N7 s1 s2 s5 s6 q0 q1
              have T1 : (X.alloc (.cells #[.int .i64 (ux+f1), .int .i64 (uy+f2)] 42)).ownsRow (b4 + 1) 42 2 (.slice (some ⟨g5, 0, none⟩) l.length c5) l.length (ptCells l) := ownX.alloc _
              have T3 := World.news_of_block (cs := #[.int .i64 (ux + f1), .int .i64 (uy + f2)]) (t := 42) (fr := (0, 0)) (heap_alloc_new X _)
              rw [zX] at T3
              have T4 : (X.alloc (.cells #[.int .i64 (ux+f1), .int .i64 (uy+f2)] 42)).heap.size = X.heap.size + 1 := by simp
              go_wp2_with (at_builtin; refine wpList_append_lies _ rfl _ _ _ rfl (b4 + 1) 42 i0 _ 2 16 Tryd.underlying23 hi0 hz0 hz1 hz2 rfl ?_ _ _ _ ?_ T1 ⟨v1.heap.size, 0, none⟩ 1 1 [.int .i64 (ux + f1), .int .i64 (uy + f2)] ?_ ?_ ?_ ?_ ?_ ?_ ?_ ?_ (X.heap.size + 1) ?_ ?_; (any_goals first | omega | rfl | exact T3 | exact T4 | (simp [Value.oneCell']; done) | (simp [maxLen]; omega) | (simp; omega)); intro gg cap' w8 hown1 hgrow hat hlt1)
              have zw8 := hgrow.size
              rw [World.size_alloc] at zw8
              go_roundw
              case rel =>
                refine ⟨l ++ [(ux + f1, uy + f2)], ux + f1, uy + f2, pq, m', D, rfl, hD, by simp, pb_snoc hPB (pb_of (by omega) (by omega) (by omega) (by omega)), by simp, by simp; omega, ⟨by omega, by omega, by omega, by omega⟩, ?_, by rw [ptCells_snoc, List.length_append]; exact hown1, by omega, (RX.alloc _).grown hgrow (fun j e => by have e' : g5 = j := Option.some.inj e; omega), (PX.alloc _).grown hgrow (fun j e => by have e' : g5 = j := Option.some.inj e; omega), by omega⟩
                exact (hgrow.block b4 (by simp; omega) (fun e => by have e' : b4 = g5 := Option.some.inj e; omega)).trans ((Below.heap_alloc _ _ _ (blk_lt D4)).trans D4)
              case measure => simp [intOf]
          · skip
            refine wpOp_now rfl (by rfl) ?_
            go_simp
            have hS2 : (fun w' : World => ((AtC b4 0 (.int .i64 ux) w' ∧ AtC b4 1 (.int .i64 uy) w') ∧ AtC (Y.heap.size) D (.int .i64 f1) w')) ((Y.alloc (.cells #[.int .i64 1, .int .i64 0, .int .i64 (-1), .int .i64 0] 3)).alloc (.cells #[.int .i64 0, .int .i64 0] 42)) := ⟨⟨cellAl (hS1.1.1), cellAl (hS1.1.2)⟩, cellAl (hS1.2)⟩
            have hT : ((Y.alloc (.cells #[.int .i64 1, .int .i64 0, .int .i64 (-1), .int .i64 0] 3)).alloc (.cells #[.int .i64 0, .int .i64 0] 42)).heap[Y.heap.size + 1]? = some (.cells #[.int .i64 0, .int .i64 0] 42) := newBlk (by simp)
            first | refine ⟨hS2, ?_⟩ | refine ⟨hS2.1.1, hS2.1.2, hS2.2, ?_⟩ | skip
            refine wpAnyH_all (rs := [9]) (by kernel_rfl) (by simp) ?_
            intro i hi
            obtain rfl : i = 9 := by simpa using hi
            refine wpOp_now rfl (by rfl) ?_
            go_simp
            have hS3' : (fun w' : World => ((AtC b4 0 (.int .i64 ux) w' ∧ AtC b4 1 (.int .i64 uy) w') ∧ AtC (Y.heap.size) D (.int .i64 f1) w')) (((Y.alloc (.cells #[.int .i64 1, .int .i64 0, .int .i64 (-1), .int .i64 0] 3)).alloc (.cells #[.int .i64 0, .int .i64 0] 42)).alloc (.cells #[.int .i64 0, .int .i64 1, .int .i64 0, .int .i64 (-1)] 3)) := ⟨⟨cellAl (hS2.1.1), cellAl (hS2.1.2)⟩, cellAl (hS2.2)⟩
            have hT : (((Y.alloc (.cells #[.int .i64 1, .int .i64 0, .int .i64 (-1), .int .i64 0] 3)).alloc (.cells #[.int .i64 0, .int .i64 0] 42)).alloc (.cells #[.int .i64 0, .int .i64 1, .int .i64 0, .int .i64 (-1)] 3)).heap[Y.heap.size + 1]? = some (.cells #[.int .i64 0, .int .i64 0] 42) := (heap_old _ _ (blk_lt hT)).trans hT
            first | refine ⟨hS3', ?_⟩ | refine ⟨hS3'.1.1, hS3'.1.2, hS3'.2, ?_⟩ | skip
            have hS3 : (fun w' : World => (((AtC b4 0 (.int .i64 ux) w' ∧ AtC b4 1 (.int .i64 uy) w') ∧ AtC (Y.heap.size) D (.int .i64 f1) w') ∧ AtC (Y.heap.size + 1 + 1) D (.int .i64 f2) w')) (((Y.alloc (.cells #[.int .i64 1, .int .i64 0, .int .i64 (-1), .int .i64 0] 3)).alloc (.cells #[.int .i64 0, .int .i64 0] 42)).alloc (.cells #[.int .i64 0, .int .i64 1, .int .i64 0, .int .i64 (-1)] 3)) := ⟨hS3', newArr (by simp) h2⟩
            refine anyH_grow (S' := fun w' : World => (((AtC b4 0 (.int .i64 ux) w' ∧ AtC b4 1 (.int .i64 uy) w') ∧ AtC (Y.heap.size) D (.int .i64 f1) w') ∧ AtC (Y.heap.size + 1 + 1) D (.int .i64 f2) w')) (fun _ h => h.1) _ _ _ _ ?_
            refine wpAnyH_take (i := 11) (v := .pointer (some ⟨Y.heap.size + 1 + 1, D, none⟩)) rfl (by kernel_rfl) (by kernel_rfl) (by kernel_rfl) (fun _ _ _ h => h) (Or.inl ⟨by rfl, by rintro w' ⟨⟨⟨s1, s2⟩, t1⟩, t3⟩; unfold AtC at s1 s2 t1 t3; go_simp⟩) hS3 ?_
            refine wpAnyH_take (i := 12) (v := .int .i64 f2) rfl (by kernel_rfl) (by kernel_rfl) (by kernel_rfl) (fun _ _ _ h => h) (Or.inl ⟨by rfl, by rintro w' ⟨⟨⟨s1, s2⟩, t1⟩, t3⟩; unfold AtC at s1 s2 t1 t3; go_simp⟩) hS3 ?_
            refine wpAnyH_take (i := 13) (v := .int .i64 (uy + f2)) rfl (by kernel_rfl) (by kernel_rfl) (by kernel_rfl) (fun _ _ _ h => h) (Or.inl ⟨by rfl, by rintro w' ⟨⟨⟨s1, s2⟩, t1⟩, t3⟩; unfold AtC at s1 s2 t1 t3; go_simp⟩) hS3 ?_
            refine wpAnyH_take (i := 14) (v := .agg #[.int .i64 (ux + f1), .int .i64 (uy + f2)]) rfl (by kernel_rfl) (by kernel_rfl) (by kernel_rfl) (fun _ _ _ h => h) (Or.inl ⟨by rfl, by rintro w' ⟨⟨⟨s1, s2⟩, t1⟩, t3⟩; unfold AtC at s1 s2 t1 t3; go_simp⟩) hS3 ?_
            refine wpAnyH_all (rs := [16]) (by kernel_rfl) (by simp) ?_
            intro i hi
            obtain rfl : i = 16 := by simpa using hi
            refine wpOp_now rfl (by rfl) ?_
            go_simp
            first | refine ⟨⟨⟨⟨cellAl (cellAl (cellAl (hS0.1))), cellAl (cellAl (cellAl (hS0.2)))⟩, cellAl (cellAl (newArr (by simp) h1))⟩, newArr (by simp) h2⟩, ?_⟩ | refine ⟨cellAl (cellAl (cellAl (hS0.1))), cellAl (cellAl (cellAl (hS0.2))), cellAl (cellAl (newArr (by simp) h1)), newArr (by simp) h2, ?_⟩ | skip
            refine wpAnyH_done (by kernel_rfl) ?_ _
            refine end_gen (P := fun Wz : World => Wz.heap[Y.heap.size + 1]? = some (.cells #[.int .i64 (ux+f1), .int .i64 (uy+f2)] 42) ∧ Below Y.heap.size Y Wz ∧ Y.heap.size + 3 ≤ Wz.heap.size) ?_ ?_
            · exact ⟨blkAl (newBlk (by simp)), by repeat (first | exact bw_refl _ | apply bw_drew | apply bw_alloc), by simp⟩
            rintro Wz ⟨F7, BZ, zZ⟩
            obtain ⟨q0, q1⟩ := blk_2 F7
            have N4 := keep BZ B4
            have ownz := own8.kept (w' := Wz) (row := none) ⟨BZ.os, BZ.tape, BZ.output, BZ.size, fun j hj _ => BZ.block j hj⟩ (Classical.em _)
            have RZ := R.below BZ
            have PZ := P8.trans (Only.of_below BZ)
            clear c0 c1 k2 k3 h1 h2 hS0 hS1 hS2 hS3 BZ P8 own8 R B4
            have hp1 : ∀ b, ptB (ux + f1) (uy + f2) = b → Hid (∀ V, Calls Tryd.prog 54 #[.agg #[.int .i64 (ux+f1), .int .i64 (uy+f2)]] V fun e w' => e = .returned (.bool b) ∧ Below V.heap.size V w') := fun b hb V => by
              have := sPt_any (ux + f1) (uy + f2) V
              rwa [hb] at this
            cases hpt : ptB (ux + f1) (uy + f2)
            · have X1 := hp1 false hpt
              clear hp1 hpt
              go_wp2_with fail
              refine (X1.out _).mono ?_
              rintro e v1 ⟨rfl, J⟩
              go_wp2_with fail
              go_roundw
              case rel => exact ⟨l, ux, uy, pq, m', D, rfl, hD, by simp, hPB, hl1, by omega, ⟨u0, u1, u2, u3⟩, keep J N4, ownz.kept (w' := v1) (row := none) ⟨J.os, J.tape, J.output, J.size, fun j hj _ => J.block j hj⟩ (Classical.em _), by omega, RZ.below J, PZ.trans (Only.of_below J), by have := J.size; omega⟩
              case measure => simp [intOf]
            · have X1 := hp1 true hpt
              obtain ⟨v0, v1', v3', v4'⟩ : 0 ≤ ux + f1 ∧ ux + f1 ≤ 9 ∧ 0 ≤ uy + f2 ∧ uy + f2 ≤ 9 := (ptB_iff _ _).1 hpt
              clear hp1 hpt
              go_wp2_with fail
              refine (X1.out _).mono ?_
              rintro e v1 ⟨rfl, J⟩
              have N4' := keep J N4
              have N7 := keep J F7
              have ownv := ownz.kept (w' := v1) (row := none) ⟨J.os, J.tape, J.output, J.size, fun j hj _ => J.block j hj⟩ (Classical.em _)
              have RV := RZ.below J
              have PV := PZ.trans (Only.of_below J)
              have zv := J.size
              clear N4 F7 ownz RZ PZ J q0 q1
              obtain ⟨s1, s2, s5, s6⟩ := blk2 N4'
              obtain ⟨q0, q1⟩ := blk_2 N7
              obtain ⟨X, hX⟩ : ∃ X, X = (v1.setCell ⟨b4, 0, none⟩ (.int .i64 (ux + f1))).setCell ⟨b4, 1, none⟩ (.int .i64 (uy + f2)) := ⟨_, rfl⟩
              have D4 : X.heap[b4]? = some (.cells #[.int .i64 (ux+f1), .int .i64 (uy+f2)] 42) := by rw [hX]; exact setP2 N4'
              have GX : v1.grownBy X (some b4) := by
                rw [hX]
                refine ⟨rfl, rfl, rfl, by simp, fun q hq hqne => ?_⟩
                have hkne : q ≠ b4 := fun e => hqne (by rw [e])
                rw [Below.heap_setCell _ _ _ _ (by show q ≠ b4; exact hkne), Below.heap_setCell _ _ _ _ (by show q ≠ b4; exact hkne)]
              have ownX := ownv.kept GX (by rcases Classical.em (u4.ownBlock = none) with h | h; exact .inl h; exact .inr (fun e => by have := (ownv.lt _ e).1; omega))
              have PX : Only r w1 X := by rw [hX]; exact (PV.set (.inr (by show w1.heap.size ≤ b4; omega)) _).set (.inr (by show w1.heap.size ≤ b4; omega)) _
              have RX : Rd X r pq a len cap := by rw [hX]; exact (RV.set (by show r < b4; omega) _).set (by show r < b4; omega) _
              have zX : X.heap.size = v1.heap.size := by rw [hX]; simp
              obtain ⟨d0', d1'⟩ := blk_2 D4
              obtain ⟨g5, c5, rfl, _, _⟩ := ownX.form (by omega)
              have hg5 := (ownX.lt g5 rfl).1
              have hg5X := (ownX.lt g5 rfl).2
              go_upto_region 12 with fail
              rw [← hX]
              clear hX GX ownv RV PV N4' N7 s1 s2 s5 s6 q0 q1
              have T1 : (X.alloc (.cells #[.int .i64 (ux+f1), .int .i64 (uy+f2)] 42)).ownsRow (b4 + 1) 42 2 (.slice (some ⟨g5, 0, none⟩) l.length c5) l.length (ptCells l) := ownX.alloc _
              have T3 := World.news_of_block (cs := #[.int .i64 (ux + f1), .int .i64 (uy + f2)]) (t := 42) (fr := (0, 0)) (heap_alloc_new X _)
              rw [zX] at T3
              have T4 : (X.alloc (.cells #[.int .i64 (ux+f1), .int .i64 (uy+f2)] 42)).heap.size = X.heap.size + 1 := by simp
              go_wp2_with (at_builtin; refine wpList_append_lies _ rfl _ _ _ rfl (b4 + 1) 42 i0 _ 2 16 Tryd.underlying23 hi0 hz0 hz1 hz2 rfl ?_ _ _ _ ?_ T1 ⟨v1.heap.size, 0, none⟩ 1 1 [.int .i64 (ux + f1), .int .i64 (uy + f2)] ?_ ?_ ?_ ?_ ?_ ?_ ?_ ?_ (X.heap.size + 1) ?_ ?_; (any_goals first | omega | rfl | exact T3 | exact T4 | (simp [Value.oneCell']; done) | (simp [maxLen]; omega) | (simp; omega)); intro gg cap' w8 hown1 hgrow hat hlt1)
              have zw8 := hgrow.size
              rw [World.size_alloc] at zw8
              go_roundw
              case rel =>
                refine ⟨l ++ [(ux + f1, uy + f2)], ux + f1, uy + f2, pq, m', D, rfl, hD, by simp, pb_snoc hPB (pb_of (by omega) (by omega) (by omega) (by omega)), by simp, by simp; omega, ⟨by omega, by omega, by omega, by omega⟩, ?_, by rw [ptCells_snoc, List.length_append]; exact hown1, by omega, (RX.alloc _).grown hgrow (fun j e => by have e' : g5 = j := Option.some.inj e; omega), (PX.alloc _).grown hgrow (fun j e => by have e' : g5 = j := Option.some.inj e; omega), by omega⟩
                exact (hgrow.block b4 (by simp; omega) (fun e => by have e' : b4 = g5 := Option.some.inj e; omega)).trans ((Below.heap_alloc _ _ _ (blk_lt D4)).trans D4)
              case measure => simp [intOf]
        · skip
          refine wpOp_now rfl (by rfl) ?_
          go_simp
          have hS1' : (fun w' : World => (AtC b4 0 (.int .i64 ux) w' ∧ AtC b4 1 (.int .i64 uy) w')) (Y.alloc (.cells #[.int .i64 0, .int .i64 1, .int .i64 0, .int .i64 (-1)] 3)) := ⟨cellAl (hS0.1), cellAl (hS0.2)⟩
          first | refine ⟨hS1', ?_⟩ | refine ⟨hS1'.1, hS1'.2, ?_⟩ | skip
          have hS1 : (fun w' : World => ((AtC b4 0 (.int .i64 ux) w' ∧ AtC b4 1 (.int .i64 uy) w') ∧ AtC (Y.heap.size) D (.int .i64 f2) w')) (Y.alloc (.cells #[.int .i64 0, .int .i64 1, .int .i64 0, .int .i64 (-1)] 3)) := ⟨hS1', newArr (by simp) h2⟩
          refine anyH_grow (S' := fun w' : World => ((AtC b4 0 (.int .i64 ux) w' ∧ AtC b4 1 (.int .i64 uy) w') ∧ AtC (Y.heap.size) D (.int .i64 f2) w')) (fun _ h => h.1) _ _ _ _ ?_
          refine wpAnyH_take (i := 11) (v := .pointer (some ⟨Y.heap.size, D, none⟩)) rfl (by kernel_rfl) (by kernel_rfl) (by kernel_rfl) (fun _ _ _ h => h) (Or.inl ⟨by rfl, by rintro w' ⟨⟨s1, s2⟩, t1⟩; unfold AtC at s1 s2 t1; go_simp⟩) hS1 ?_
          refine wpAnyH_take (i := 12) (v := .int .i64 f2) rfl (by kernel_rfl) (by kernel_rfl) (by kernel_rfl) (fun _ _ _ h => h) (Or.inl ⟨by rfl, by rintro w' ⟨⟨s1, s2⟩, t1⟩; unfold AtC at s1 s2 t1; go_simp⟩) hS1 ?_
          refine wpAnyH_take (i := 13) (v := .int .i64 (uy + f2)) rfl (by kernel_rfl) (by kernel_rfl) (by kernel_rfl) (fun _ _ _ h => h) (Or.inl ⟨by rfl, by rintro w' ⟨⟨s1, s2⟩, t1⟩; unfold AtC at s1 s2 t1; go_simp⟩) hS1 ?_
          refine wpAnyH_all (rs := [2, 15]) (by kernel_rfl) (by simp) ?_
          intro i hi
          have hi' : i = 2 ∨ i = 15 := by simpa using hi
          rcases hi' with rfl | rfl
          · skip
            refine wpOp_now rfl (by rfl) ?_
            go_simp
            have hS2' : (fun w' : World => ((AtC b4 0 (.int .i64 ux) w' ∧ AtC b4 1 (.int .i64 uy) w') ∧ AtC (Y.heap.size) D (.int .i64 f2) w')) ((Y.alloc (.cells #[.int .i64 0, .int .i64 1, .int .i64 0, .int .i64 (-1)] 3)).alloc (.cells #[.int .i64 1, .int .i64 0, .int .i64 (-1), .int .i64 0] 3)) := ⟨⟨cellAl (hS1.1.1), cellAl (hS1.1.2)⟩, cellAl (hS1.2)⟩
            first | refine ⟨hS2', ?_⟩ | refine ⟨hS2'.1.1, hS2'.1.2, hS2'.2, ?_⟩ | skip
            have hS2 : (fun w' : World => (((AtC b4 0 (.int .i64 ux) w' ∧ AtC b4 1 (.int .i64 uy) w') ∧ AtC (Y.heap.size) D (.int .i64 f2) w') ∧ AtC (Y.heap.size + 1) D (.int .i64 f1) w')) ((Y.alloc (.cells #[.int .i64 0, .int .i64 1, .int .i64 0, .int .i64 (-1)] 3)).alloc (.cells #[.int .i64 1, .int .i64 0, .int .i64 (-1), .int .i64 0] 3)) := ⟨hS2', newArr (by simp) h1⟩
            refine anyH_grow (S' := fun w' : World => (((AtC b4 0 (.int .i64 ux) w' ∧ AtC b4 1 (.int .i64 uy) w') ∧ AtC (Y.heap.size) D (.int .i64 f2) w') ∧ AtC (Y.heap.size + 1) D (.int .i64 f1) w')) (fun _ h => h.1) _ _ _ _ ?_
            refine wpAnyH_take (i := 4) (v := .pointer (some ⟨Y.heap.size + 1, D, none⟩)) rfl (by kernel_rfl) (by kernel_rfl) (by kernel_rfl) (fun _ _ _ h => h) (Or.inl ⟨by rfl, by rintro w' ⟨⟨⟨s1, s2⟩, t1⟩, t2⟩; unfold AtC at s1 s2 t1 t2; go_simp⟩) hS2 ?_
            refine wpAnyH_take (i := 5) (v := .int .i64 f1) rfl (by kernel_rfl) (by kernel_rfl) (by kernel_rfl) (fun _ _ _ h => h) (Or.inl ⟨by rfl, by rintro w' ⟨⟨⟨s1, s2⟩, t1⟩, t2⟩; unfold AtC at s1 s2 t1 t2; go_simp⟩) hS2 ?_
            refine wpAnyH_take (i := 6) (v := .int .i64 (ux + f1)) rfl (by kernel_rfl) (by kernel_rfl) (by kernel_rfl) (fun _ _ _ h => h) (Or.inl ⟨by rfl, by rintro w' ⟨⟨⟨s1, s2⟩, t1⟩, t2⟩; unfold AtC at s1 s2 t1 t2; go_simp⟩) hS2 ?_
            refine wpAnyH_take (i := 14) (v := .agg #[.int .i64 (ux + f1), .int .i64 (uy + f2)]) rfl (by kernel_rfl) (by kernel_rfl) (by kernel_rfl) (fun _ _ _ h => h) (Or.inl ⟨by rfl, by rintro w' ⟨⟨⟨s1, s2⟩, t1⟩, t2⟩; unfold AtC at s1 s2 t1 t2; go_simp⟩) hS2 ?_
            refine wpAnyH_all (rs := [15]) (by kernel_rfl) (by simp) ?_
            intro i hi
            obtain rfl : i = 15 := by simpa using hi
            refine wpOp_now rfl (by rfl) ?_
            go_simp
            have hS3 : (fun w' : World => (((AtC b4 0 (.int .i64 ux) w' ∧ AtC b4 1 (.int .i64 uy) w') ∧ AtC (Y.heap.size) D (.int .i64 f2) w') ∧ AtC (Y.heap.size + 1) D (.int .i64 f1) w')) (((Y.alloc (.cells #[.int .i64 0, .int .i64 1, .int .i64 0, .int .i64 (-1)] 3)).alloc (.cells #[.int .i64 1, .int .i64 0, .int .i64 (-1), .int .i64 0] 3)).alloc (.cells #[.int .i64 0, .int .i64 0] 42)) := ⟨⟨⟨cellAl (hS2.1.1.1), cellAl (hS2.1.1.2)⟩, cellAl (hS2.1.2)⟩, cellAl (hS2.2)⟩
            have hT : (((Y.alloc (.cells #[.int .i64 0, .int .i64 1, .int .i64 0, .int .i64 (-1)] 3)).alloc (.cells #[.int .i64 1, .int .i64 0, .int .i64 (-1), .int .i64 0] 3)).alloc (.cells #[.int .i64 0, .int .i64 0] 42)).heap[Y.heap.size + 1 + 1]? = some (.cells #[.int .i64 0, .int .i64 0] 42) := newBlk (by simp)
            first | refine ⟨hS3, ?_⟩ | refine ⟨hS3.1.1.1, hS3.1.1.2, hS3.1.2, hS3.2, ?_⟩ | skip
            refine wpAnyH_all (rs := [16]) (by kernel_rfl) (by simp) ?_
            intro i hi
            obtain rfl : i = 16 := by simpa using hi
            refine wpOp_now rfl (by rfl) ?_
            go_simp
            first | refine ⟨⟨⟨⟨cellAl (hS2.1.1.1), cellAl (hS2.1.1.2)⟩, cellAl (hS2.1.2)⟩, cellAl (hS2.2)⟩, ?_⟩ | refine ⟨cellAl (hS2.1.1.1), cellAl (hS2.1.1.2), cellAl (hS2.1.2), cellAl (hS2.2), ?_⟩ | skip
            refine wpAnyH_done (by kernel_rfl) ?_ _
            refine end_gen (P := fun Wz : World => Wz.heap[Y.heap.size + 1 + 1]? = some (.cells #[.int .i64 (ux+f1), .int .i64 (uy+f2)] 42) ∧ Below Y.heap.size Y Wz ∧ Y.heap.size + 3 ≤ Wz.heap.size) ?_ ?_
            · exact ⟨newBlk (by simp), by repeat (first | exact bw_refl _ | apply bw_drew | apply bw_alloc), by simp⟩
            rintro Wz ⟨F7, BZ, zZ⟩
            obtain ⟨q0, q1⟩ := blk_2 F7
            have N4 := keep BZ B4
            have ownz := own8.kept (w' := Wz) (row := none) ⟨BZ.os, BZ.tape, BZ.output, BZ.size, fun j hj _ => BZ.block j hj⟩ (Classical.em _)
            have RZ := R.below BZ
            have PZ := P8.trans (Only.of_below BZ)
            clear c0 c1 k2 k3 h1 h2 hS0 hS1 hS2 hS3 BZ P8 own8 R B4
            have hp1 : ∀ b, ptB (ux + f1) (uy + f2) = b → Hid (∀ V, Calls Tryd.prog 54 #[.agg #[.int .i64 (ux+f1), .int .i64 (uy+f2)]] V fun e w' => e = .returned (.bool b) ∧ Below V.heap.size V w') := fun b hb V => by
              have := sPt_any (ux + f1) (uy + f2) V
              rwa [hb] at this
            cases hpt : ptB (ux + f1) (uy + f2)
            · have X1 := hp1 false hpt
              clear hp1 hpt
              go_wp2_with fail
              refine (X1.out _).mono ?_
              rintro e v1 ⟨rfl, J⟩
              go_wp2_with fail
              go_roundw
              case rel => exact ⟨l, ux, uy, pq, m', D, rfl, hD, by simp, hPB, hl1, by omega, ⟨u0, u1, u2, u3⟩, keep J N4, ownz.kept (w' := v1) (row := none) ⟨J.os, J.tape, J.output, J.size, fun j hj _ => J.block j hj⟩ (Classical.em _), by omega, RZ.below J, PZ.trans (Only.of_below J), by have := J.size; omega⟩
              case measure => simp [intOf]
            · have X1 := hp1 true hpt
              obtain ⟨v0, v1', v3', v4'⟩ : 0 ≤ ux + f1 ∧ ux + f1 ≤ 9 ∧ 0 ≤ uy + f2 ∧ uy + f2 ≤ 9 := (ptB_iff _ _).1 hpt
              clear hp1 hpt
              go_wp2_with fail
              refine (X1.out _).mono ?_
              rintro e v1 ⟨rfl, J⟩
              have N4' := keep J N4
              have N7 := keep J F7
              have ownv := ownz.kept (w' := v1) (row := none) ⟨J.os, J.tape, J.output, J.size, fun j hj _ => J.block j hj⟩ (Classical.em _)
              have RV := RZ.below J
              have PV := PZ.trans (Only.of_below J)
              have zv := J.size
              clear N4 F7 ownz RZ PZ J q0 q1
              obtain ⟨s1, s2, s5, s6⟩ := blk2 N4'
              obtain ⟨q0, q1⟩ := blk_2 N7
              obtain ⟨X, hX⟩ : ∃ X, X = (v1.setCell ⟨b4, 0, none⟩ (.int .i64 (ux + f1))).setCell ⟨b4, 1, none⟩ (.int .i64 (uy + f2)) := ⟨_, rfl⟩
              have D4 : X.heap[b4]? = some (.cells #[.int .i64 (ux+f1), .int .i64 (uy+f2)] 42) := by rw [hX]; exact setP2 N4'
              have GX : v1.grownBy X (some b4) := by
                rw [hX]
                refine ⟨rfl, rfl, rfl, by simp, fun q hq hqne => ?_⟩
                have hkne : q ≠ b4 := fun e => hqne (by rw [e])
                rw [Below.heap_setCell _ _ _ _ (by show q ≠ b4; exact hkne), Below.heap_setCell _ _ _ _ (by show q ≠ b4; exact hkne)]
              have ownX := ownv.kept GX (by rcases Classical.em (u4.ownBlock = none) with h | h; exact .inl h; exact .inr (fun e => by have := (ownv.lt _ e).1; omega))
              have PX : Only r w1 X := by rw [hX]; exact (PV.set (.inr (by show w1.heap.size ≤ b4; omega)) _).set (.inr (by show w1.heap.size ≤ b4; omega)) _
              have RX : Rd X r pq a len cap := by rw [hX]; exact (RV.set (by show r < b4; omega) _).set (by show r < b4; omega) _
              have zX : X.heap.size = v1.heap.size := by rw [hX]; simp
              obtain ⟨d0', d1'⟩ := blk_2 D4
              obtain ⟨g5, c5, rfl, _, _⟩ := ownX.form (by omega)
              have hg5 := (ownX.lt g5 rfl).1
              have hg5X := (ownX.lt g5 rfl).2
              go_upto_region 12 with fail
              rw [← hX]
              clear hX GX ownv RV PV N4' N7 s1 s2 s5 s6 q0 q1
              have T1 : (X.alloc (.cells #[.int .i64 (ux+f1), .int .i64 (uy+f2)] 42)).ownsRow (b4 + 1) 42 2 (.slice (some ⟨g5, 0, none⟩) l.length c5) l.length (ptCells l) := ownX.alloc _
              have T3 := World.news_of_block (cs := #[.int .i64 (ux + f1), .int .i64 (uy + f2)]) (t := 42) (fr := (0, 0)) (heap_alloc_new X _)
              rw [zX] at T3
              have T4 : (X.alloc (.cells #[.int .i64 (ux+f1), .int .i64 (uy+f2)] 42)).heap.size = X.heap.size + 1 := by simp
              go_wp2_with (at_builtin; refine wpList_append_lies _ rfl _ _ _ rfl (b4 + 1) 42 i0 _ 2 16 Tryd.underlying23 hi0 hz0 hz1 hz2 rfl ?_ _ _ _ ?_ T1 ⟨v1.heap.size, 0, none⟩ 1 1 [.int .i64 (ux + f1), .int .i64 (uy + f2)] ?_ ?_ ?_ ?_ ?_ ?_ ?_ ?_ (X.heap.size + 1) ?_ ?_; (any_goals first | omega | rfl | exact T3 | exact T4 | (simp [Value.oneCell']; done) | (simp [maxLen]; omega) | (simp; omega)); intro gg cap' w8 hown1 hgrow hat hlt1)
              have zw8 := hgrow.size
              rw [World.size_alloc] at zw8
              go_roundw
              case rel =>
                refine ⟨l ++ [(ux + f1, uy + f2)], ux + f1, uy + f2, pq, m', D, rfl, hD, by simp, pb_snoc hPB (pb_of (by omega) (by omega) (by omega) (by omega)), by simp, by simp; omega, ⟨by omega, by omega, by omega, by omega⟩, ?_, by rw [ptCells_snoc, List.length_append]; exact hown1, by omega, (RX.alloc _).grown hgrow (fun j e => by have e' : g5 = j := Option.some.inj e; omega), (PX.alloc _).grown hgrow (fun j e => by have e' : g5 = j := Option.some.inj e; omega), by omega⟩
                exact (hgrow.block b4 (by simp; omega) (fun e => by have e' : b4 = g5 := Option.some.inj e; omega)).trans ((Below.heap_alloc _ _ _ (blk_lt D4)).trans D4)
              case measure => simp [intOf]
          · skip
            refine wpOp_now rfl (by rfl) ?_
            go_simp
            have hS2 : (fun w' : World => ((AtC b4 0 (.int .i64 ux) w' ∧ AtC b4 1 (.int .i64 uy) w') ∧ AtC (Y.heap.size) D (.int .i64 f2) w')) ((Y.alloc (.cells #[.int .i64 0, .int .i64 1, .int .i64 0, .int .i64 (-1)] 3)).alloc (.cells #[.int .i64 0, .int .i64 0] 42)) := ⟨⟨cellAl (hS1.1.1), cellAl (hS1.1.2)⟩, cellAl (hS1.2)⟩
            have hT : ((Y.alloc (.cells #[.int .i64 0, .int .i64 1, .int .i64 0, .int .i64 (-1)] 3)).alloc (.cells #[.int .i64 0, .int .i64 0] 42)).heap[Y.heap.size + 1]? = some (.cells #[.int .i64 0, .int .i64 0] 42) := newBlk (by simp)
            first | refine ⟨hS2, ?_⟩ | refine ⟨hS2.1.1, hS2.1.2, hS2.2, ?_⟩ | skip
            refine wpAnyH_all (rs := [2]) (by kernel_rfl) (by simp) ?_
            intro i hi
            obtain rfl : i = 2 := by simpa using hi
            refine wpOp_now rfl (by rfl) ?_
            go_simp
            have hS3' : (fun w' : World => ((AtC b4 0 (.int .i64 ux) w' ∧ AtC b4 1 (.int .i64 uy) w') ∧ AtC (Y.heap.size) D (.int .i64 f2) w')) (((Y.alloc (.cells #[.int .i64 0, .int .i64 1, .int .i64 0, .int .i64 (-1)] 3)).alloc (.cells #[.int .i64 0, .int .i64 0] 42)).alloc (.cells #[.int .i64 1, .int .i64 0, .int .i64 (-1), .int .i64 0] 3)) := ⟨⟨cellAl (hS2.1.1), cellAl (hS2.1.2)⟩, cellAl (hS2.2)⟩
            have hT : (((Y.alloc (.cells #[.int .i64 0, .int .i64 1, .int .i64 0, .int .i64 (-1)] 3)).alloc (.cells #[.int .i64 0, .int .i64 0] 42)).alloc (.cells #[.int .i64 1, .int .i64 0, .int .i64 (-1), .int .i64 0] 3)).heap[Y.heap.size + 1]? = some (.cells #[.int .i64 0, .int .i64 0] 42) := (heap_old _ _ (blk_lt hT)).trans hT
            first | refine ⟨hS3', ?_⟩ | refine ⟨hS3'.1.1, hS3'.1.2, hS3'.2, ?_⟩ | skip
            have hS3 : (fun w' : World => (((AtC b4 0 (.int .i64 ux) w' ∧ AtC b4 1 (.int .i64 uy) w') ∧ AtC (Y.heap.size) D (.int .i64 f2) w') ∧ AtC (Y.heap.size + 1 + 1) D (.int .i64 f1) w')) (((Y.alloc (.cells #[.int .i64 0, .int .i64 1, .int .i64 0, .int .i64 (-1)] 3)).alloc (.cells #[.int .i64 0, .int .i64 0] 42)).alloc (.cells #[.int .i64 1, .int .i64 0, .int .i64 (-1), .int .i64 0] 3)) := ⟨hS3', newArr (by simp) h1⟩
            refine anyH_grow (S' := fun w' : World => (((AtC b4 0 (.int .i64 ux) w' ∧ AtC b4 1 (.int .i64 uy) w') ∧ AtC (Y.heap.size) D (.int .i64 f2) w') ∧ AtC (Y.heap.size + 1 + 1) D (.int .i64 f1) w')) (fun _ h => h.1) _ _ _ _ ?_
            refine wpAnyH_take (i := 4) (v := .pointer (some ⟨Y.heap.size + 1 + 1, D, none⟩)) rfl (by kernel_rfl) (by kernel_rfl) (by kernel_rfl) (fun _ _ _ h => h) (Or.inl ⟨by rfl, by rintro w' ⟨⟨⟨s1, s2⟩, t1⟩, t3⟩; unfold AtC at s1 s2 t1 t3; go_simp⟩) hS3 ?_
            refine wpAnyH_take (i := 5) (v := .int .i64 f1) rfl (by kernel_rfl) (by kernel_rfl) (by kernel_rfl) (fun _ _ _ h => h) (Or.inl ⟨by rfl, by rintro w' ⟨⟨⟨s1, s2⟩, t1⟩, t3⟩; unfold AtC at s1 s2 t1 t3; go_simp⟩) hS3 ?_
            refine wpAnyH_take (i := 6) (v := .int .i64 (ux + f1)) rfl (by kernel_rfl) (by kernel_rfl) (by kernel_rfl) (fun _ _ _ h => h) (Or.inl ⟨by rfl, by rintro w' ⟨⟨⟨s1, s2⟩, t1⟩, t3⟩; unfold AtC at s1 s2 t1 t3; go_simp⟩) hS3 ?_
            refine wpAnyH_take (i := 14) (v := .agg #[.int .i64 (ux + f1), .int .i64 (uy + f2)]) rfl (by kernel_rfl) (by kernel_rfl) (by kernel_rfl) (fun _ _ _ h => h) (Or.inl ⟨by rfl, by rintro w' ⟨⟨⟨s1, s2⟩, t1⟩, t3⟩; unfold AtC at s1 s2 t1 t3; go_simp⟩) hS3 ?_
            refine wpAnyH_all (rs := [16]) (by kernel_rfl) (by simp) ?_
            intro i hi
            obtain rfl : i = 16 := by simpa using hi
            refine wpOp_now rfl (by rfl) ?_
            go_simp
            first | refine ⟨⟨⟨⟨cellAl (cellAl (cellAl (hS0.1))), cellAl (cellAl (cellAl (hS0.2)))⟩, cellAl (cellAl (newArr (by simp) h2))⟩, newArr (by simp) h1⟩, ?_⟩ | refine ⟨cellAl (cellAl (cellAl (hS0.1))), cellAl (cellAl (cellAl (hS0.2))), cellAl (cellAl (newArr (by simp) h2)), newArr (by simp) h1, ?_⟩ | skip
            refine wpAnyH_done (by kernel_rfl) ?_ _
            refine end_gen (P := fun Wz : World => Wz.heap[Y.heap.size + 1]? = some (.cells #[.int .i64 (ux+f1), .int .i64 (uy+f2)] 42) ∧ Below Y.heap.size Y Wz ∧ Y.heap.size + 3 ≤ Wz.heap.size) ?_ ?_
            · exact ⟨blkAl (newBlk (by simp)), by repeat (first | exact bw_refl _ | apply bw_drew | apply bw_alloc), by simp⟩
            rintro Wz ⟨F7, BZ, zZ⟩
            obtain ⟨q0, q1⟩ := blk_2 F7
            have N4 := keep BZ B4
            have ownz := own8.kept (w' := Wz) (row := none) ⟨BZ.os, BZ.tape, BZ.output, BZ.size, fun j hj _ => BZ.block j hj⟩ (Classical.em _)
            have RZ := R.below BZ
            have PZ := P8.trans (Only.of_below BZ)
            clear c0 c1 k2 k3 h1 h2 hS0 hS1 hS2 hS3 BZ P8 own8 R B4
            have hp1 : ∀ b, ptB (ux + f1) (uy + f2) = b → Hid (∀ V, Calls Tryd.prog 54 #[.agg #[.int .i64 (ux+f1), .int .i64 (uy+f2)]] V fun e w' => e = .returned (.bool b) ∧ Below V.heap.size V w') := fun b hb V => by
              have := sPt_any (ux + f1) (uy + f2) V
              rwa [hb] at this
            cases hpt : ptB (ux + f1) (uy + f2)
            · have X1 := hp1 false hpt
              clear hp1 hpt
              go_wp2_with fail
              refine (X1.out _).mono ?_
              rintro e v1 ⟨rfl, J⟩
              go_wp2_with fail
              go_roundw
              case rel => exact ⟨l, ux, uy, pq, m', D, rfl, hD, by simp, hPB, hl1, by omega, ⟨u0, u1, u2, u3⟩, keep J N4, ownz.kept (w' := v1) (row := none) ⟨J.os, J.tape, J.output, J.size, fun j hj _ => J.block j hj⟩ (Classical.em _), by omega, RZ.below J, PZ.trans (Only.of_below J), by have := J.size; omega⟩
              case measure => simp [intOf]
            · have X1 := hp1 true hpt
              obtain ⟨v0, v1', v3', v4'⟩ : 0 ≤ ux + f1 ∧ ux + f1 ≤ 9 ∧ 0 ≤ uy + f2 ∧ uy + f2 ≤ 9 := (ptB_iff _ _).1 hpt
              clear hp1 hpt
              go_wp2_with fail
              refine (X1.out _).mono ?_
              rintro e v1 ⟨rfl, J⟩
              have N4' := keep J N4
              have N7 := keep J F7
              have ownv := ownz.kept (w' := v1) (row := none) ⟨J.os, J.tape, J.output, J.size, fun j hj _ => J.block j hj⟩ (Classical.em _)
              have RV := RZ.below J
              have PV := PZ.trans (Only.of_below J)
              have zv := J.size
              clear N4 F7 ownz RZ PZ J q0 q1
              obtain ⟨s1, s2, s5, s6⟩ := blk2 N4'
              obtain ⟨q0, q1⟩ := blk_2 N7
              obtain ⟨X, hX⟩ : ∃ X, X = (v1.setCell ⟨b4, 0, none⟩ (.int .i64 (ux + f1))).setCell ⟨b4, 1, none⟩ (.int .i64 (uy + f2)) := ⟨_, rfl⟩
              have D4 : X.heap[b4]? = some (.cells #[.int .i64 (ux+f1), .int .i64 (uy+f2)] 42) := by rw [hX]; exact setP2 N4'
              have GX : v1.grownBy X (some b4) := by
                rw [hX]
                refine ⟨rfl, rfl, rfl, by simp, fun q hq hqne => ?_⟩
                have hkne : q ≠ b4 := fun e => hqne (by rw [e])
                rw [Below.heap_setCell _ _ _ _ (by show q ≠ b4; exact hkne), Below.heap_setCell _ _ _ _ (by show q ≠ b4; exact hkne)]
              have ownX := ownv.kept GX (by rcases Classical.em (u4.ownBlock = none) with h | h; exact .inl h; exact .inr (fun e => by have := (ownv.lt _ e).1; omega))
              have PX : Only r w1 X := by rw [hX]; exact (PV.set (.inr (by show w1.heap.size ≤ b4; omega)) _).set (.inr (by show w1.heap.size ≤ b4; omega)) _
              have RX : Rd X r pq a len cap := by rw [hX]; exact (RV.set (by show r < b4; omega) _).set (by show r < b4; omega) _
              have zX : X.heap.size = v1.heap.size := by rw [hX]; simp
              obtain ⟨d0', d1'⟩ := blk_2 D4
              obtain ⟨g5, c5, rfl, _, _⟩ := ownX.form (by omega)
              have hg5 := (ownX.lt g5 rfl).1
              have hg5X := (ownX.lt g5 rfl).2
              go_upto_region 12 with fail
              rw [← hX]
              clear hX GX ownv RV PV N4' N7 s1 s2 s5 s6 q0 q1
              have T1 : (X.alloc (.cells #[.int .i64 (ux+f1), .int .i64 (uy+f2)] 42)).ownsRow (b4 + 1) 42 2 (.slice (some ⟨g5, 0, none⟩) l.length c5) l.length (ptCells l) := ownX.alloc _
              have T3 := World.news_of_block (cs := #[.int .i64 (ux + f1), .int .i64 (uy + f2)]) (t := 42) (fr := (0, 0)) (heap_alloc_new X _)
              rw [zX] at T3
              have T4 : (X.alloc (.cells #[.int .i64 (ux+f1), .int .i64 (uy+f2)] 42)).heap.size = X.heap.size + 1 := by simp
              go_wp2_with (at_builtin; refine wpList_append_lies _ rfl _ _ _ rfl (b4 + 1) 42 i0 _ 2 16 Tryd.underlying23 hi0 hz0 hz1 hz2 rfl ?_ _ _ _ ?_ T1 ⟨v1.heap.size, 0, none⟩ 1 1 [.int .i64 (ux + f1), .int .i64 (uy + f2)] ?_ ?_ ?_ ?_ ?_ ?_ ?_ ?_ (X.heap.size + 1) ?_ ?_; (any_goals first | omega | rfl | exact T3 | exact T4 | (simp [Value.oneCell']; done) | (simp [maxLen]; omega) | (simp; omega)); intro gg cap' w8 hown1 hgrow hat hlt1)
              have zw8 := hgrow.size
              rw [World.size_alloc] at zw8
              go_roundw
              case rel =>
                refine ⟨l ++ [(ux + f1, uy + f2)], ux + f1, uy + f2, pq, m', D, rfl, hD, by simp, pb_snoc hPB (pb_of (by omega) (by omega) (by omega) (by omega)), by simp, by simp; omega, ⟨by omega, by omega, by omega, by omega⟩, ?_, by rw [ptCells_snoc, List.length_append]; exact hown1, by omega, (RX.alloc _).grown hgrow (fun j e => by have e' : g5 = j := Option.some.inj e; omega), (PX.alloc _).grown hgrow (fun j e => by have e' : g5 = j := Option.some.inj e; omega), by omega⟩
                exact (hgrow.block b4 (by simp; omega) (fun e => by have e' : b4 = g5 := Option.some.inj e; omega)).trans ((Below.heap_alloc _ _ _ (blk_lt D4)).trans D4)
              case measure => simp [intOf]
        · skip
          refine wpOp_now rfl (by rfl) ?_
          go_simp
          have hS1 : (fun w' : World => (AtC b4 0 (.int .i64 ux) w' ∧ AtC b4 1 (.int .i64 uy) w')) (Y.alloc (.cells #[.int .i64 0, .int .i64 0] 42)) := ⟨cellAl (hS0.1), cellAl (hS0.2)⟩
          have hT : (Y.alloc (.cells #[.int .i64 0, .int .i64 0] 42)).heap[Y.heap.size]? = some (.cells #[.int .i64 0, .int .i64 0] 42) := newBlk (by simp)
          first | refine ⟨hS1, ?_⟩ | refine ⟨hS1.1, hS1.2, ?_⟩ | skip
          refine wpAnyH_all (rs := [2, 9]) (by kernel_rfl) (by simp) ?_
          intro i hi
          have hi' : i = 2 ∨ i = 9 := by simpa using hi
          rcases hi' with rfl | rfl
          · skip
            refine wpOp_now rfl (by rfl) ?_
            go_simp
            have hS2' : (fun w' : World => (AtC b4 0 (.int .i64 ux) w' ∧ AtC b4 1 (.int .i64 uy) w')) ((Y.alloc (.cells #[.int .i64 0, .int .i64 0] 42)).alloc (.cells #[.int .i64 1, .int .i64 0, .int .i64 (-1), .int .i64 0] 3)) := ⟨cellAl (hS1.1), cellAl (hS1.2)⟩
            have hT : ((Y.alloc (.cells #[.int .i64 0, .int .i64 0] 42)).alloc (.cells #[.int .i64 1, .int .i64 0, .int .i64 (-1), .int .i64 0] 3)).heap[Y.heap.size]? = some (.cells #[.int .i64 0, .int .i64 0] 42) := (heap_old _ _ (blk_lt hT)).trans hT
            first | refine ⟨hS2', ?_⟩ | refine ⟨hS2'.1, hS2'.2, ?_⟩ | skip
            have hS2 : (fun w' : World => ((AtC b4 0 (.int .i64 ux) w' ∧ AtC b4 1 (.int .i64 uy) w') ∧ AtC (Y.heap.size + 1) D (.int .i64 f1) w')) ((Y.alloc (.cells #[.int .i64 0, .int .i64 0] 42)).alloc (.cells #[.int .i64 1, .int .i64 0, .int .i64 (-1), .int .i64 0] 3)) := ⟨hS2', newArr (by simp) h1⟩
            refine anyH_grow (S' := fun w' : World => ((AtC b4 0 (.int .i64 ux) w' ∧ AtC b4 1 (.int .i64 uy) w') ∧ AtC (Y.heap.size + 1) D (.int .i64 f1) w')) (fun _ h => h.1) _ _ _ _ ?_
            refine wpAnyH_take (i := 4) (v := .pointer (some ⟨Y.heap.size + 1, D, none⟩)) rfl (by kernel_rfl) (by kernel_rfl) (by kernel_rfl) (fun _ _ _ h => h) (Or.inl ⟨by rfl, by rintro w' ⟨⟨s1, s2⟩, t2⟩; unfold AtC at s1 s2 t2; go_simp⟩) hS2 ?_
            refine wpAnyH_take (i := 5) (v := .int .i64 f1) rfl (by kernel_rfl) (by kernel_rfl) (by kernel_rfl) (fun _ _ _ h => h) (Or.inl ⟨by rfl, by rintro w' ⟨⟨s1, s2⟩, t2⟩; unfold AtC at s1 s2 t2; go_simp⟩) hS2 ?_
            refine wpAnyH_take (i := 6) (v := .int .i64 (ux + f1)) rfl (by kernel_rfl) (by kernel_rfl) (by kernel_rfl) (fun _ _ _ h => h) (Or.inl ⟨by rfl, by rintro w' ⟨⟨s1, s2⟩, t2⟩; unfold AtC at s1 s2 t2; go_simp⟩) hS2 ?_
            refine wpAnyH_all (rs := [9]) (by kernel_rfl) (by simp) ?_
            intro i hi
            obtain rfl : i = 9 := by simpa using hi
            refine wpOp_now rfl (by rfl) ?_
            go_simp
            have hS3' : (fun w' : World => ((AtC b4 0 (.int .i64 ux) w' ∧ AtC b4 1 (.int .i64 uy) w') ∧ AtC (Y.heap.size + 1) D (.int .i64 f1) w')) (((Y.alloc (.cells #[.int .i64 0, .int .i64 0] 42)).alloc (.cells #[.int .i64 1, .int .i64 0, .int .i64 (-1), .int .i64 0] 3)).alloc (.cells #[.int .i64 0, .int .i64 1, .int .i64 0, .int .i64 (-1)] 3)) := ⟨⟨cellAl (hS2.1.1), cellAl (hS2.1.2)⟩, cellAl (hS2.2)⟩
            have hT : (((Y.alloc (.cells #[.int .i64 0, .int .i64 0] 42)).alloc (.cells #[.int .i64 1, .int .i64 0, .int .i64 (-1), .int .i64 0] 3)).alloc (.cells #[.int .i64 0, .int .i64 1, .int .i64 0, .int .i64 (-1)] 3)).heap[Y.heap.size]? = some (.cells #[.int .i64 0, .int .i64 0] 42) := (heap_old _ _ (blk_lt hT)).trans hT
            first | refine ⟨hS3', ?_⟩ | refine ⟨hS3'.1.1, hS3'.1.2, hS3'.2, ?_⟩ | skip
            have hS3 : (fun w' : World => (((AtC b4 0 (.int .i64 ux) w' ∧ AtC b4 1 (.int .i64 uy) w') ∧ AtC (Y.heap.size + 1) D (.int .i64 f1) w') ∧ AtC (Y.heap.size + 1 + 1) D (.int .i64 f2) w')) (((Y.alloc (.cells #[.int .i64 0, .int .i64 0] 42)).alloc (.cells #[.int .i64 1, .int .i64 0, .int .i64 (-1), .int .i64 0] 3)).alloc (.cells #[.int .i64 0, .int .i64 1, .int .i64 0, .int .i64 (-1)] 3)) := ⟨hS3', newArr (by simp) h2⟩
            refine anyH_grow (S' := fun w' : World => (((AtC b4 0 (.int .i64 ux) w' ∧ AtC b4 1 (.int .i64 uy) w') ∧ AtC (Y.heap.size + 1) D (.int .i64 f1) w') ∧ AtC (Y.heap.size + 1 + 1) D (.int .i64 f2) w')) (fun _ h => h.1) _ _ _ _ ?_
            refine wpAnyH_take (i := 11) (v := .pointer (some ⟨Y.heap.size + 1 + 1, D, none⟩)) rfl (by kernel_rfl) (by kernel_rfl) (by kernel_rfl) (fun _ _ _ h => h) (Or.inl ⟨by rfl, by rintro w' ⟨⟨⟨s1, s2⟩, t2⟩, t3⟩; unfold AtC at s1 s2 t2 t3; go_simp⟩) hS3 ?_
            refine wpAnyH_take (i := 12) (v := .int .i64 f2) rfl (by kernel_rfl) (by kernel_rfl) (by kernel_rfl) (fun _ _ _ h => h) (Or.inl ⟨by rfl, by rintro w' ⟨⟨⟨s1, s2⟩, t2⟩, t3⟩; unfold AtC at s1 s2 t2 t3; go_simp⟩) hS3 ?_
            refine wpAnyH_take (i := 13) (v := .int .i64 (uy + f2)) rfl (by kernel_rfl) (by kernel_rfl) (by kernel_rfl) (fun _ _ _ h => h) (Or.inl ⟨by rfl, by rintro w' ⟨⟨⟨s1, s2⟩, t2⟩, t3⟩; unfold AtC at s1 s2 t2 t3; go_simp⟩) hS3 ?_
            refine wpAnyH_take (i := 14) (v := .agg #[.int .i64 (ux + f1), .int .i64 (uy + f2)]) rfl (by kernel_rfl) (by kernel_rfl) (by kernel_rfl) (fun _ _ _ h => h) (Or.inl ⟨by rfl, by rintro w' ⟨⟨⟨s1, s2⟩, t2⟩, t3⟩; unfold AtC at s1 s2 t2 t3; go_simp⟩) hS3 ?_
            refine wpAnyH_all (rs := [16]) (by kernel_rfl) (by simp) ?_
            intro i hi
            obtain rfl : i = 16 := by simpa using hi
            refine wpOp_now rfl (by rfl) ?_
            go_simp
            first | refine ⟨⟨⟨⟨cellAl (cellAl (cellAl (hS0.1))), cellAl (cellAl (cellAl (hS0.2)))⟩, cellAl (newArr (by simp) h1)⟩, newArr (by simp) h2⟩, ?_⟩ | refine ⟨cellAl (cellAl (cellAl (hS0.1))), cellAl (cellAl (cellAl (hS0.2))), cellAl (newArr (by simp) h1), newArr (by simp) h2, ?_⟩ | skip
            refine wpAnyH_done (by kernel_rfl) ?_ _
            refine end_gen (P := fun Wz : World => Wz.heap[Y.heap.size]? = some (.cells #[.int .i64 (ux+f1), .int .i64 (uy+f2)] 42) ∧ Below Y.heap.size Y Wz ∧ Y.heap.size + 3 ≤ Wz.heap.size) ?_ ?_
            · exact ⟨blkAl (blkAl (newBlk (by simp))), by repeat (first | exact bw_refl _ | apply bw_drew | apply bw_alloc), by simp⟩
            rintro Wz ⟨F7, BZ, zZ⟩
            obtain ⟨q0, q1⟩ := blk_2 F7
            have N4 := keep BZ B4
            have ownz := own8.kept (w' := Wz) (row := none) ⟨BZ.os, BZ.tape, BZ.output, BZ.size, fun j hj _ => BZ.block j hj⟩ (Classical.em _)
            have RZ := R.below BZ
            have PZ := P8.trans (Only.of_below BZ)
            clear c0 c1 k2 k3 h1 h2 hS0 hS1 hS2 hS3 BZ P8 own8 R B4
            have hp1 : ∀ b, ptB (ux + f1) (uy + f2) = b → Hid (∀ V, Calls Tryd.prog 54 #[.agg #[.int .i64 (ux+f1), .int .i64 (uy+f2)]] V fun e w' => e = .returned (.bool b) ∧ Below V.heap.size V w') := fun b hb V => by
              have := sPt_any (ux + f1) (uy + f2) V
              rwa [hb] at this
            cases hpt : ptB (ux + f1) (uy + f2)
            · have X1 := hp1 false hpt
              clear hp1 hpt
              go_wp2_with fail
              refine (X1.out _).mono ?_
              rintro e v1 ⟨rfl, J⟩
              go_wp2_with fail
              go_roundw
              case rel => exact ⟨l, ux, uy, pq, m', D, rfl, hD, by simp, hPB, hl1, by omega, ⟨u0, u1, u2, u3⟩, keep J N4, ownz.kept (w' := v1) (row := none) ⟨J.os, J.tape, J.output, J.size, fun j hj _ => J.block j hj⟩ (Classical.em _), by omega, RZ.below J, PZ.trans (Only.of_below J), by have := J.size; omega⟩
              case measure => simp [intOf]
            · have X1 := hp1 true hpt
              obtain ⟨v0, v1', v3', v4'⟩ : 0 ≤ ux + f1 ∧ ux + f1 ≤ 9 ∧ 0 ≤ uy + f2 ∧ uy + f2 ≤ 9 := (ptB_iff _ _).1 hpt
              clear hp1 hpt
              go_wp2_with fail
              refine (X1.out _).mono ?_
              rintro e v1 ⟨rfl, J⟩
              have N4' := keep J N4
              have N7 := keep J F7
              have ownv := ownz.kept (w' := v1) (row := none) ⟨J.os, J.tape, J.output, J.size, fun j hj _ => J.block j hj⟩ (Classical.em _)
              have RV := RZ.below J
              have PV := PZ.trans (Only.of_below J)
              have zv := J.size
              clear N4 F7 ownz RZ PZ J q0 q1
              obtain ⟨s1, s2, s5, s6⟩ := blk2 N4'
              obtain ⟨q0, q1⟩ := blk_2 N7
              obtain ⟨X, hX⟩ : ∃ X, X = (v1.setCell ⟨b4, 0, none⟩ (.int .i64 (ux + f1))).setCell ⟨b4, 1, none⟩ (.int .i64 (uy + f2)) := ⟨_, rfl⟩
              have D4 : X.heap[b4]? = some (.cells #[.int .i64 (ux+f1), .int .i64 (uy+f2)] 42) := by rw [hX]; exact setP2 N4'
              have GX : v1.grownBy X (some b4) := by
                rw [hX]
                refine ⟨rfl, rfl, rfl, by simp, fun q hq hqne => ?_⟩
                have hkne : q ≠ b4 := fun e => hqne (by rw [e])
                rw [Below.heap_setCell _ _ _ _ (by show q ≠ b4; exact hkne), Below.heap_setCell _ _ _ _ (by show q ≠ b4; exact hkne)]
              have ownX := ownv.kept GX (by rcases Classical.em (u4.ownBlock = none) with h | h; exact .inl h; exact .inr (fun e => by have := (ownv.lt _ e).1; omega))
              have PX : Only r w1 X := by rw [hX]; exact (PV.set (.inr (by show w1.heap.size ≤ b4; omega)) _).set (.inr (by show w1.heap.size ≤ b4; omega)) _
              have RX : Rd X r pq a len cap := by rw [hX]; exact (RV.set (by show r < b4; omega) _).set (by show r < b4; omega) _
              have zX : X.heap.size = v1.heap.size := by rw [hX]; simp
              obtain ⟨d0', d1'⟩ := blk_2 D4
              obtain ⟨g5, c5, rfl, _, _⟩ := ownX.form (by omega)
              have hg5 := (ownX.lt g5 rfl).1
              have hg5X := (ownX.lt g5 rfl).2
              go_upto_region 12 with fail
              rw [← hX]
              clear hX GX ownv RV PV N4' N7 s1 s2 s5 s6 q0 q1
              have T1 : (X.alloc (.cells #[.int .i64 (ux+f1), .int .i64 (uy+f2)] 42)).ownsRow (b4 + 1) 42 2 (.slice (some ⟨g5, 0, none⟩) l.length c5) l.length (ptCells l) := ownX.alloc _
              have T3 := World.news_of_block (cs := #[.int .i64 (ux + f1), .int .i64 (uy + f2)]) (t := 42) (fr := (0, 0)) (heap_alloc_new X _)
              rw [zX] at T3
              have T4 : (X.alloc (.cells #[.int .i64 (ux+f1), .int .i64 (uy+f2)] 42)).heap.size = X.heap.size + 1 := by simp
              go_wp2_with (at_builtin; refine wpList_append_lies _ rfl _ _ _ rfl (b4 + 1) 42 i0 _ 2 16 Tryd.underlying23 hi0 hz0 hz1 hz2 rfl ?_ _ _ _ ?_ T1 ⟨v1.heap.size, 0, none⟩ 1 1 [.int .i64 (ux + f1), .int .i64 (uy + f2)] ?_ ?_ ?_ ?_ ?_ ?_ ?_ ?_ (X.heap.size + 1) ?_ ?_; (any_goals first | omega | rfl | exact T3 | exact T4 | (simp [Value.oneCell']; done) | (simp [maxLen]; omega) | (simp; omega)); intro gg cap' w8 hown1 hgrow hat hlt1)
              have zw8 := hgrow.size
              rw [World.size_alloc] at zw8
              go_roundw
              case rel =>
                refine ⟨l ++ [(ux + f1, uy + f2)], ux + f1, uy + f2, pq, m', D, rfl, hD, by simp, pb_snoc hPB (pb_of (by omega) (by omega) (by omega) (by omega)), by simp, by simp; omega, ⟨by omega, by omega, by omega, by omega⟩, ?_, by rw [ptCells_snoc, List.length_append]; exact hown1, by omega, (RX.alloc _).grown hgrow (fun j e => by have e' : g5 = j := Option.some.inj e; omega), (PX.alloc _).grown hgrow (fun j e => by have e' : g5 = j := Option.some.inj e; omega), by omega⟩
                exact (hgrow.block b4 (by simp; omega) (fun e => by have e' : b4 = g5 := Option.some.inj e; omega)).trans ((Below.heap_alloc _ _ _ (blk_lt D4)).trans D4)
              case measure => simp [intOf]
          · skip
            refine wpOp_now rfl (by rfl) ?_
            go_simp
            have hS2' : (fun w' : World => (AtC b4 0 (.int .i64 ux) w' ∧ AtC b4 1 (.int .i64 uy) w')) ((Y.alloc (.cells #[.int .i64 0, .int .i64 0] 42)).alloc (.cells #[.int .i64 0, .int .i64 1, .int .i64 0, .int .i64 (-1)] 3)) := ⟨cellAl (hS1.1), cellAl (hS1.2)⟩
            have hT : ((Y.alloc (.cells #[.int .i64 0, .int .i64 0] 42)).alloc (.cells #[.int .i64 0, .int .i64 1, .int .i64 0, .int .i64 (-1)] 3)).heap[Y.heap.size]? = some (.cells #[.int .i64 0, .int .i64 0] 42) := (heap_old _ _ (blk_lt hT)).trans hT
            first | refine ⟨hS2', ?_⟩ | refine ⟨hS2'.1, hS2'.2, ?_⟩ | skip
            have hS2 : (fun w' : World => ((AtC b4 0 (.int .i64 ux) w' ∧ AtC b4 1 (.int .i64 uy) w') ∧ AtC (Y.heap.size + 1) D (.int .i64 f2) w')) ((Y.alloc (.cells #[.int .i64 0, .int .i64 0] 42)).alloc (.cells #[.int .i64 0, .int .i64 1, .int .i64 0, .int .i64 (-1)] 3)) := ⟨hS2', newArr (by simp) h2⟩
            refine anyH_grow (S' := fun w' : World => ((AtC b4 0 (.int .i64 ux) w' ∧ AtC b4 1 (.int .i64 uy) w') ∧ AtC (Y.heap.size + 1) D (.int .i64 f2) w')) (fun _ h => h.1) _ _ _ _ ?_
            refine wpAnyH_take (i := 11) (v := .pointer (some ⟨Y.heap.size + 1, D, none⟩)) rfl (by kernel_rfl) (by kernel_rfl) (by kernel_rfl) (fun _ _ _ h => h) (Or.inl ⟨by rfl, by rintro w' ⟨⟨s1, s2⟩, t2⟩; unfold AtC at s1 s2 t2; go_simp⟩) hS2 ?_
            refine wpAnyH_take (i := 12) (v := .int .i64 f2) rfl (by kernel_rfl) (by kernel_rfl) (by kernel_rfl) (fun _ _ _ h => h) (Or.inl ⟨by rfl, by rintro w' ⟨⟨s1, s2⟩, t2⟩; unfold AtC at s1 s2 t2; go_simp⟩) hS2 ?_
            refine wpAnyH_take (i := 13) (v := .int .i64 (uy + f2)) rfl (by kernel_rfl) (by kernel_rfl) (by kernel_rfl) (fun _ _ _ h => h) (Or.inl ⟨by rfl, by rintro w' ⟨⟨s1, s2⟩, t2⟩; unfold AtC at s1 s2 t2; go_simp⟩) hS2 ?_
            refine wpAnyH_all (rs := [2]) (by kernel_rfl) (by simp) ?_
            intro i hi
            obtain rfl : i = 2 := by simpa using hi
            refine wpOp_now rfl (by rfl) ?_
            go_simp
            have hS3' : (fun w' : World => ((AtC b4 0 (.int .i64 ux) w' ∧ AtC b4 1 (.int .i64 uy) w') ∧ AtC (Y.heap.size + 1) D (.int .i64 f2) w')) (((Y.alloc (.cells #[.int .i64 0, .int .i64 0] 42)).alloc (.cells #[.int .i64 0, .int .i64 1, .int .i64 0, .int .i64 (-1)] 3)).alloc (.cells #[.int .i64 1, .int .i64 0, .int .i64 (-1), .int .i64 0] 3)) := ⟨⟨cellAl (hS2.1.1), cellAl (hS2.1.2)⟩, cellAl (hS2.2)⟩
            have hT : (((Y.alloc (.cells #[.int .i64 0, .int .i64 0] 42)).alloc (.cells #[.int .i64 0, .int .i64 1, .int .i64 0, .int .i64 (-1)] 3)).alloc (.cells #[.int .i64 1, .int .i64 0, .int .i64 (-1), .int .i64 0] 3)).heap[Y.heap.size]? = some (.cells #[.int .i64 0, .int .i64 0] 42) := (heap_old _ _ (blk_lt hT)).trans hT
            first | refine ⟨hS3', ?_⟩ | refine ⟨hS3'.1.1, hS3'.1.2, hS3'.2, ?_⟩ | skip
            have hS3 : (fun w' : World => (((AtC b4 0 (.int .i64 ux) w' ∧ AtC b4 1 (.int .i64 uy) w') ∧ AtC (Y.heap.size + 1) D (.int .i64 f2) w') ∧ AtC (Y.heap.size + 1 + 1) D (.int .i64 f1) w')) (((Y.alloc (.cells #[.int .i64 0, .int .i64 0] 42)).alloc (.cells #[.int .i64 0, .int .i64 1, .int .i64 0, .int .i64 (-1)] 3)).alloc (.cells #[.int .i64 1, .int .i64 0, .int .i64 (-1), .int .i64 0] 3)) := ⟨hS3', newArr (by simp) h1⟩
            refine anyH_grow (S' := fun w' : World => (((AtC b4 0 (.int .i64 ux) w' ∧ AtC b4 1 (.int .i64 uy) w') ∧ AtC (Y.heap.size + 1) D (.int .i64 f2) w') ∧ AtC (Y.heap.size + 1 + 1) D (.int .i64 f1) w')) (fun _ h => h.1) _ _ _ _ ?_
            refine wpAnyH_take (i := 4) (v := .pointer (some ⟨Y.heap.size + 1 + 1, D, none⟩)) rfl (by kernel_rfl) (by kernel_rfl) (by kernel_rfl) (fun _ _ _ h => h) (Or.inl ⟨by rfl, by rintro w' ⟨⟨⟨s1, s2⟩, t2⟩, t3⟩; unfold AtC at s1 s2 t2 t3; go_simp⟩) hS3 ?_
            refine wpAnyH_take (i := 5) (v := .int .i64 f1) rfl (by kernel_rfl) (by kernel_rfl) (by kernel_rfl) (fun _ _ _ h => h) (Or.inl ⟨by rfl, by rintro w' ⟨⟨⟨s1, s2⟩, t2⟩, t3⟩; unfold AtC at s1 s2 t2 t3; go_simp⟩) hS3 ?_
            refine wpAnyH_take (i := 6) (v := .int .i64 (ux + f1)) rfl (by kernel_rfl) (by kernel_rfl) (by kernel_rfl) (fun _ _ _ h => h) (Or.inl ⟨by rfl, by rintro w' ⟨⟨⟨s1, s2⟩, t2⟩, t3⟩; unfold AtC at s1 s2 t2 t3; go_simp⟩) hS3 ?_
            refine wpAnyH_take (i := 14) (v := .agg #[.int .i64 (ux + f1), .int .i64 (uy + f2)]) rfl (by kernel_rfl) (by kernel_rfl) (by kernel_rfl) (fun _ _ _ h => h) (Or.inl ⟨by rfl, by rintro w' ⟨⟨⟨s1, s2⟩, t2⟩, t3⟩; unfold AtC at s1 s2 t2 t3; go_simp⟩) hS3 ?_
            refine wpAnyH_all (rs := [16]) (by kernel_rfl) (by simp) ?_
            intro i hi
            obtain rfl : i = 16 := by simpa using hi
            refine wpOp_now rfl (by rfl) ?_
            go_simp
            first | refine ⟨⟨⟨⟨cellAl (cellAl (cellAl (hS0.1))), cellAl (cellAl (cellAl (hS0.2)))⟩, cellAl (newArr (by simp) h2)⟩, newArr (by simp) h1⟩, ?_⟩ | refine ⟨cellAl (cellAl (cellAl (hS0.1))), cellAl (cellAl (cellAl (hS0.2))), cellAl (newArr (by simp) h2), newArr (by simp) h1, ?_⟩ | skip
            refine wpAnyH_done (by kernel_rfl) ?_ _
            refine end_gen (P := fun Wz : World => Wz.heap[Y.heap.size]? = some (.cells #[.int .i64 (ux+f1), .int .i64 (uy+f2)] 42) ∧ Below Y.heap.size Y Wz ∧ Y.heap.size + 3 ≤ Wz.heap.size) ?_ ?_
            · exact ⟨blkAl (blkAl (newBlk (by simp))), by repeat (first | exact bw_refl _ | apply bw_drew | apply bw_alloc), by simp⟩
            rintro Wz ⟨F7, BZ, zZ⟩
            obtain ⟨q0, q1⟩ := blk_2 F7
            have N4 := keep BZ B4
            have ownz := own8.kept (w' := Wz) (row := none) ⟨BZ.os, BZ.tape, BZ.output, BZ.size, fun j hj _ => BZ.block j hj⟩ (Classical.em _)
            have RZ := R.below BZ
            have PZ := P8.trans (Only.of_below BZ)
            clear c0 c1 k2 k3 h1 h2 hS0 hS1 hS2 hS3 BZ P8 own8 R B4
            have hp1 : ∀ b, ptB (ux + f1) (uy + f2) = b → Hid (∀ V, Calls Tryd.prog 54 #[.agg #[.int .i64 (ux+f1), .int .i64 (uy+f2)]] V fun e w' => e = .returned (.bool b) ∧ Below V.heap.size V w') := fun b hb V => by
              have := sPt_any (ux + f1) (uy + f2) V
              rwa [hb] at this
            cases hpt : ptB (ux + f1) (uy + f2)
            · have X1 := hp1 false hpt
              clear hp1 hpt
              go_wp2_with fail
              refine (X1.out _).mono ?_
              rintro e v1 ⟨rfl, J⟩
              go_wp2_with fail
              go_roundw
              case rel => exact ⟨l, ux, uy, pq, m', D, rfl, hD, by simp, hPB, hl1, by omega, ⟨u0, u1, u2, u3⟩, keep J N4, ownz.kept (w' := v1) (row := none) ⟨J.os, J.tape, J.output, J.size, fun j hj _ => J.block j hj⟩ (Classical.em _), by omega, RZ.below J, PZ.trans (Only.of_below J), by have := J.size; omega⟩
              case measure => simp [intOf]
            · have X1 := hp1 true hpt
              obtain ⟨v0, v1', v3', v4'⟩ : 0 ≤ ux + f1 ∧ ux + f1 ≤ 9 ∧ 0 ≤ uy + f2 ∧ uy + f2 ≤ 9 := (ptB_iff _ _).1 hpt
              clear hp1 hpt
              go_wp2_with fail
              refine (X1.out _).mono ?_
              rintro e v1 ⟨rfl, J⟩
              have N4' := keep J N4
              have N7 := keep J F7
              have ownv := ownz.kept (w' := v1) (row := none) ⟨J.os, J.tape, J.output, J.size, fun j hj _ => J.block j hj⟩ (Classical.em _)
              have RV := RZ.below J
              have PV := PZ.trans (Only.of_below J)
              have zv := J.size
              clear N4 F7 ownz RZ PZ J q0 q1
              obtain ⟨s1, s2, s5, s6⟩ := blk2 N4'
              obtain ⟨q0, q1⟩ := blk_2 N7
              obtain ⟨X, hX⟩ : ∃ X, X = (v1.setCell ⟨b4, 0, none⟩ (.int .i64 (ux + f1))).setCell ⟨b4, 1, none⟩ (.int .i64 (uy + f2)) := ⟨_, rfl⟩
              have D4 : X.heap[b4]? = some (.cells #[.int .i64 (ux+f1), .int .i64 (uy+f2)] 42) := by rw [hX]; exact setP2 N4'
              have GX : v1.grownBy X (some b4) := by
                rw [hX]
                refine ⟨rfl, rfl, rfl, by simp, fun q hq hqne => ?_⟩
                have hkne : q ≠ b4 := fun e => hqne (by rw [e])
                rw [Below.heap_setCell _ _ _ _ (by show q ≠ b4; exact hkne), Below.heap_setCell _ _ _ _ (by show q ≠ b4; exact hkne)]
              have ownX := ownv.kept GX (by rcases Classical.em (u4.ownBlock = none) with h | h; exact .inl h; exact .inr (fun e => by have := (ownv.lt _ e).1; omega))
              have PX : Only r w1 X := by rw [hX]; exact (PV.set (.inr (by show w1.heap.size ≤ b4; omega)) _).set (.inr (by show w1.heap.size ≤ b4; omega)) _
              have RX : Rd X r pq a len cap := by rw [hX]; exact (RV.set (by show r < b4; omega) _).set (by show r < b4; omega) _
              have zX : X.heap.size = v1.heap.size := by rw [hX]; simp
              obtain ⟨d0', d1'⟩ := blk_2 D4
              obtain ⟨g5, c5, rfl, _, _⟩ := ownX.form (by omega)
              have hg5 := (ownX.lt g5 rfl).1
              have hg5X := (ownX.lt g5 rfl).2
              go_upto_region 12 with fail
              rw [← hX]
              clear hX GX ownv RV PV N4' N7 s1 s2 s5 s6 q0 q1
              have T1 : (X.alloc (.cells #[.int .i64 (ux+f1), .int .i64 (uy+f2)] 42)).ownsRow (b4 + 1) 42 2 (.slice (some ⟨g5, 0, none⟩) l.length c5) l.length (ptCells l) := ownX.alloc _
              have T3 := World.news_of_block (cs := #[.int .i64 (ux + f1), .int .i64 (uy + f2)]) (t := 42) (fr := (0, 0)) (heap_alloc_new X _)
              rw [zX] at T3
              have T4 : (X.alloc (.cells #[.int .i64 (ux+f1), .int .i64 (uy+f2)] 42)).heap.size = X.heap.size + 1 := by simp
              go_wp2_with (at_builtin; refine wpList_append_lies _ rfl _ _ _ rfl (b4 + 1) 42 i0 _ 2 16 Tryd.underlying23 hi0 hz0 hz1 hz2 rfl ?_ _ _ _ ?_ T1 ⟨v1.heap.size, 0, none⟩ 1 1 [.int .i64 (ux + f1), .int .i64 (uy + f2)] ?_ ?_ ?_ ?_ ?_ ?_ ?_ ?_ (X.heap.size + 1) ?_ ?_; (any_goals first | omega | rfl | exact T3 | exact T4 | (simp [Value.oneCell']; done) | (simp [maxLen]; omega) | (simp; omega)); intro gg cap' w8 hown1 hgrow hat hlt1)
              have zw8 := hgrow.size
              rw [World.size_alloc] at zw8
              go_roundw
              case rel =>
                refine ⟨l ++ [(ux + f1, uy + f2)], ux + f1, uy + f2, pq, m', D, rfl, hD, by simp, pb_snoc hPB (pb_of (by omega) (by omega) (by omega) (by omega)), by simp, by simp; omega, ⟨by omega, by omega, by omega, by omega⟩, ?_, by rw [ptCells_snoc, List.length_append]; exact hown1, by omega, (RX.alloc _).grown hgrow (fun j e => by have e' : g5 = j := Option.some.inj e; omega), (PX.alloc _).grown hgrow (fun j e => by have e' : g5 = j := Option.some.inj e; omega), by omega⟩
                exact (hgrow.block b4 (by simp; omega) (fun e => by have e' : b4 = g5 := Option.some.inj e; omega)).trans ((Below.heap_alloc _ _ _ (blk_lt D4)).trans D4)
              case measure => simp [intOf]
theorem l72Path_any (k : Nat) (a : Option Addr) (len cap r : Nat) (w1 : World) (hk : k ≤ 1000) (R : Rd w1 r k a len cap) :
    Calls Tryd.prog 28 #[.pointer (some ⟨r, 0, none⟩)] w1 fun e w' => ∃ (g c : Nat) (l : List P2), e = .returned (.slice (some ⟨g, 0, none⟩) l.length c) ∧ l.length ≤ 20 ∧ (∀ p ∈ l, PB p.1 p.2) ∧ l.length ≤ c ∧ PtBlk w' g c l l.length ∧ Only r w1 w' := by
  refine (l72Path_rd k a len cap r w1 hk R).mono ?_
  rintro e w' ⟨g, c, l, h1, h2, h3, h4, h5, h6, _⟩
  exact ⟨g, c, l, h1, h2, h3, h4, h5, h6⟩
end Go.Proofs.YtfdnadiliedikaaDoor
