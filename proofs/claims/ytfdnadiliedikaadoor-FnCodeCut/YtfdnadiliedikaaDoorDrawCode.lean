/-
  OUR OWN TEXT. The specification's drawn points in line, by contract: whatever the bytes are, points of our own memory are handed back; nothing that was there is written.
-/
import Derived.Test.YtfdnadiliedikaaDoorDrawLoop
import Derived.Test.YtfdnadiliedikaaDoorLuL
import Derived.Test.YtfdnadiliedikaaDoorCells
namespace Go.Proofs.YtfdnadiliedikaaDoor
open Go.RowKit Go.Sort

/-- What drawn points are. -/
def DrawnC (lo hi : Nat) (w : World) (e : Ending) (w' : World) : Prop :=
  ∃ (g c : Nat) (l : List P2), e = .returned (.slice (some ⟨g, 0, none⟩) l.length c) ∧ lo ≤ l.length ∧ l.length ≤ hi ∧ (∀ p ∈ l, PB p.1 p.2) ∧ l.length ≤ c ∧ PtBlk w' g c l l.length ∧ Below w.heap.size w w'
theorem pb_of {x y : Int} (h1 : 0 ≤ x) (h2 : x ≤ 9) (h3 : 0 ≤ y) (h4 : y ≤ 9) : PB x y := by unfold PB; omega
theorem pb_one {x y : Int} (h1 : 0 ≤ x) (h2 : x ≤ 9) (h3 : 0 ≤ y) (h4 : y ≤ 9) : ∀ p ∈ [((x, y) : P2)], PB p.1 p.2 := by
  intro p hp
  obtain rfl := List.mem_singleton.1 hp
  exact pb_of h1 h2 h3 h4
theorem pb_snoc {l : List P2} {x y : Int} (h : ∀ p ∈ l, PB p.1 p.2) (hp : PB x y) : ∀ p ∈ l ++ [((x, y) : P2)], PB p.1 p.2 := by
  intro p hq
  rcases List.mem_append.1 hq with hq | hq
  · exact h p hq
  · obtain rfl := List.mem_singleton.1 hq
    exact hp
set_option maxRecDepth 100000 in
set_option maxHeartbeats 8000000 in
theorem drawStay_any {a : Option Addr} {len0 cap : Nat} {zs : List Int} (w0 w : World) (h : IsRow .u8 w0 a len0 cap zs) (hb : Below w0.heap.size w0 w) :
    Calls Tryd.prog 25 #[.slice a len0 cap] w (DrawnC 1 8 w) := by
  obtain ⟨i0, hi0, hz0, hz1, hz2⟩ := info_parts Tryd.infoPt
  go_enter Tryd.func25, Tryd.ntmps25
  go_wp2_with fail
  refine (open_rd w0 _ h hb).mono ?_
  rintro e w1 ⟨len, rfl, R, hb1⟩
  have z1 := hb1.size
  have zr := R.lt
  have P := Only.refl w.heap.size w1
  go_wp2_with fail
  refine (pick_rd 10 0 a len cap _ _ (by omega) (by omega) R).mono ?_
  clear R
  rintro e w2 ⟨x, rfl, xa, xb, R, O⟩
  replace P := P.trans O
  clear O
  go_wp2_with fail
  refine (pick_rd 10 (0 + 1) a len cap _ _ (by omega) (by omega) R).mono ?_
  clear R
  rintro e w3 ⟨y, rfl, ya, yb, R, O⟩
  replace P := P.trans O
  clear O
  obtain ⟨W, hW, BW, T4, T5⟩ := boxes2 w3 (.cells #[.int .i64 x, .int .i64 y] 42) (.cells #[.int .i64 x, .int .i64 y] 42)
  have zP := P.size
  have zW : W.heap.size = w3.heap.size + 1 + 1 := by rw [hW]; simp
  have own0 : W.ownsRow (w3.heap.size + 1) 42 2 (.slice (some ⟨w3.heap.size + 1, 0, none⟩) 1 1) 1 (ptCells [(x, y)]) := own_lit T5 (Nat.le_refl _) rfl (Nat.le_refl _) (by simp [maxLen]) rfl rfl
  have RW : Rd W w.heap.size (0 + 1 + 1) a len cap := by rw [hW]; exact (R.alloc _).alloc _
  have PW : Only w.heap.size w1 W := by rw [hW]; exact (P.alloc _).alloc _
  have hpk := pick_rd 7 (0 + 1 + 1) a len cap _ _ (by omega) (by omega) RW
  rw [hW] at hpk
  go_wp2_with fail
  refine hpk.mono ?_
  rw [← hW]
  clear hW R RW hpk P T5
  rintro e w5 ⟨nn, rfl, na, nb, R, O⟩
  obtain ⟨n0, rfl⟩ := Int.eq_ofNat_of_zero_le na
  generalize hb4 : w3.heap.size = b4 at *
  have T4' := keepO O T4 (by omega)
  have own5 := own0.kept (w' := w5) (row := some w.heap.size) ⟨O.os, O.tape, O.output, O.size, fun j hj hne => O.block j (fun e => hne (by rw [e])) hj⟩ (.inr (fun e => by have e' : b4 + 1 = w.heap.size := Option.some.inj e; omega))
  have P := PW.trans O
  have z5 := O.size
  clear own0 PW T4 BW O
  go_wp2_with fail
  go_loopw [5, 6] (fun o i wr => ∃ (l : List P2) (ux uy : Int) (p m q : Nat), i = .int .i64 m ∧ (∀ p ∈ l, PB p.1 p.2) ∧ l.length = q + 1 ∧ q + 1 + m ≤ 7 ∧ (0 ≤ ux ∧ ux ≤ 9 ∧ 0 ≤ uy ∧ uy ≤ 9) ∧ wr.heap[b4]? = some (.cells #[.int .i64 ux, .int .i64 uy] 42) ∧ wr.ownsRow (b4 + 1) 42 2 o (q + 1) (ptCells l) ∧ p + 10 * m ≤ 100 ∧ Rd wr w.heap.size p a len cap ∧ Only w.heap.size w1 wr ∧ b4 + 2 ≤ wr.heap.size) (fun _ i _ => (intOf i).toNat)
  case atStart => exact ⟨[(x, y)], x, y, 0 + 1 + 1 + 1, n0, 0, rfl, pb_one (by omega) (by omega) (by omega) (by omega), rfl, by omega, ⟨by omega, by omega, by omega, by omega⟩, T4', own5, by omega, R, P, by omega⟩
  case round =>
    obtain ⟨l, ux, uy, p, m, q, rfl, hPB, hl1, hlm, ⟨u0, u1, u2, u3⟩, B4, hown, hp, R, P, hzr⟩ := hrel
    have hzb : w.heap.size < b4 ∧ w1.heap.size ≤ b4 := ⟨by omega, by omega⟩
    by_cases hm : m = 0
    case pos =>
      subst hm
      have zP := P.size
      go_wp2_with fail
      refine (pick_rd 12 p a len cap _ _ (by omega) (by omega) R).mono ?_
      clear R
      rintro e w6 ⟨v2, rfl, va, vb, R, O6⟩
      have own6 := hown.kept (w' := w6) (row := some w.heap.size) ⟨O6.os, O6.tape, O6.output, O6.size, fun j hj hne => O6.block j (fun e => hne (by rw [e])) hj⟩ (by rcases Classical.em (u5.ownBlock = none) with h | h; exact .inl h; exact .inr (fun e => by have := (hown.lt _ e).1; omega))
      have P6 := P.trans O6
      have z6 := O6.size
      by_cases h0 : v2 = 0
      · subst h0
        go_wp2_with fail
        refine (l71Pt_any (p + 1) a len cap _ _ (by omega) R).mono ?_
        rintro e w7 ⟨px, py, p7, rfl, hPx, _, R7, O7⟩
        have own7 := own6.kept (w' := w7) (row := some w.heap.size) ⟨O7.os, O7.tape, O7.output, O7.size, fun j hj hne => O7.block j (fun e => hne (by rw [e])) hj⟩ (by rcases Classical.em (u5.ownBlock = none) with h | h; exact .inl h; exact .inr (fun e => by have := (own6.lt _ e).1; omega))
        have P7 := P6.trans O7
        have z7 := O7.size
        obtain ⟨g5, c5, rfl, _, _⟩ := own7.form (by omega)
        have hg5 := (own7.lt g5 rfl).1
        go_wp2_with (at_builtin; refine wpList_append_lies _ rfl _ _ _ rfl (b4 + 1) 42 i0 _ 2 16 Tryd.underlying23 hi0 hz0 hz1 hz2 rfl (by omega) _ _ _ rfl (own7.alloc _) ⟨w7.heap.size, 0, none⟩ 1 1 [.int .i64 px, .int .i64 py] rfl rfl (World.news_of_block (cs := #[.int .i64 px, .int .i64 py]) (t := 42) (fr := (0, 0)) (heap_alloc_new w7 _)) (by simp [Value.oneCell']) (by omega) (by simp [maxLen]; omega) (by omega) (by simp; omega) (w7.heap.size + 1) (by simp) ?_; intro gg cap' w8 hown1 hgrow hat hlt1)
        have P8 : Only w.heap.size w1 w8 := (P7.alloc (.cells #[.int .i64 px, .int .i64 py] 42)).grown hgrow (fun j e => by have e' : g5 = j := Option.some.inj e; omega)
        rw [← ptCells_snoc l (px, py)] at hown1
        have hl2 : (l ++ [(px, py)]).length = q + 1 + 1 := by rw [List.length_append, hl1]; rfl
        obtain ⟨hb8, hb9, _, _⟩ := blk_of_own hown1 hl2
        go_ret
        refine ⟨gg, cap', l ++ [(px, py)], ?_, by omega, by omega, pb_snoc hPB hPx, by omega, by rw [hl2]; exact hb8, hb1.trans (P8.below' (B := w.heap.size) (Nat.le_refl _) (by omega))⟩
        rw [hl2]
        rfl
      · have y1 : (v2 == 0) = false := by simpa using h0
        have y2 : (v2 = 0) = False := by simpa using h0
        clear h0
        obtain ⟨g5, c5, rfl, _, _⟩ := own6.form (by omega)
        obtain ⟨hb8, hb9, _, _⟩ := blk_of_own own6 hl1
        go_wp2_with fail
        go_ret
        refine ⟨g5, c5, l, ?_, by omega, by omega, hPB, by omega, by rw [hl1]; exact hb8, hb1.trans (P6.below' (B := w.heap.size) (Nat.le_refl _) (by omega))⟩
        rw [hl1]
        rfl
    case neg =>
      obtain ⟨m', rfl⟩ : ∃ m', m = m' + 1 := ⟨m - 1, by omega⟩
      have i1 : (0 : Int) < (m' : Int) + 1 := by omega
      have k1 : IntKind.i64.wrap ((m' : Int)) = (m' : Int) := wrap_small (by omega) (by omega)
      go_wp2_with fail
      refine (pick_rd 2 p a len cap _ _ (by omega) (by omega) R).mono ?_
      clear R
      rintro e w6 ⟨v2, rfl, va, vb, R, O6⟩
      have zP := P.size
      rcases (show v2 = 0 ∨ v2 = 1 by omega) with rfl | rfl
      · skip
        go_wp2_with fail
        refine (pick_rd 10 (p + 1) a len cap _ _ (by omega) (by omega) R).mono ?_
        clear R
        rintro e w7 ⟨v3, rfl, vc, vd, R, O7⟩
        have C4 := keepO (O6.trans O7) B4 (by omega)
        have own7 := hown.kept (w' := w7) (row := some w.heap.size) ⟨(O6.trans O7).os, (O6.trans O7).tape, (O6.trans O7).output, (O6.trans O7).size, fun j hj hne => (O6.trans O7).block j (fun e => hne (by rw [e])) hj⟩ (by rcases Classical.em (u5.ownBlock = none) with h | h; exact .inl h; exact .inr (fun e => by have := (hown.lt _ e).1; omega))
        have P7 := (P.trans O6).trans O7
        have z67 := (O6.trans O7).size
        obtain ⟨X, hX⟩ : ∃ X, X = w7.setCell ⟨b4, 0, none⟩ (.int .i64 v3) := ⟨_, rfl⟩
        have D4 : X.heap[b4]? = some (.cells #[.int .i64 v3, .int .i64 uy] 42) := by rw [hX, setCell_row C4 _]; rfl
        have GX : w7.grownBy X (some b4) := by
          rw [hX]
          exact ⟨rfl, rfl, rfl, by simp, fun q hq hqne => by rw [Below.heap_setCell _ _ _ _ (by show q ≠ b4; exact fun e => hqne (by rw [e]))]⟩
        have ownX := own7.kept GX (by rcases Classical.em (u5.ownBlock = none) with h | h; exact .inl h; exact .inr (fun e => by have := (own7.lt _ e).1; omega))
        have PX : Only w.heap.size w1 X := by rw [hX]; exact P7.set (.inr (by show w1.heap.size ≤ b4; omega)) _
        have RX : Rd X w.heap.size (p + 1 + 1) a len cap := by rw [hX]; exact R.set (by show w.heap.size < b4; omega) _
        have zX : X.heap.size = w7.heap.size := by rw [hX]; simp
        obtain ⟨c0, c1, cf0, cf1⟩ := blk2 C4
        go_wp2_with fail
        clear c0 c1 cf0 cf1
        rw [← hX]
        clear hX GX own7 C4 P7 R hown P B4 O6 O7
        obtain ⟨g5, c5, rfl, _, _⟩ := ownX.form (by omega)
        have hg5 := (ownX.lt g5 rfl).1
        have hg5X := (ownX.lt g5 rfl).2
        obtain ⟨_, hPX⟩ := (blk_of_own ownX hl1).1.pts' hl1
        rcases hPX with h0 | ⟨b9, o9, h9, hb9, hc9⟩
        · omega
        cases h9
        obtain ⟨e0, e1⟩ := hc9 q (by omega)
        rw [Nat.zero_add] at e0 e1
        obtain ⟨lx, hlx⟩ : ∃ lx, lx = (ptAt l q).1 := ⟨_, rfl⟩
        obtain ⟨ly, hly⟩ : ∃ ly, ly = (ptAt l q).2 := ⟨_, rfl⟩
        rw [← hlx] at e0
        rw [← hly] at e1
        clear hc9 hlx hly
        have k3 : IntKind.i64.wrap ((q : Int)) = (q : Int) := wrap_small (by omega) (by omega)
        have k4 : (0 : Int) ≤ (q : Int) := Int.natCast_nonneg _
        have k5 : (q : Int) < (q : Int) + 1 := by omega
        have k6 : (q : Int) < ((q + 1 : Nat) : Int) := by omega
        have hcase : (v3 = lx ∧ uy = ly) ∨ (v3 = lx ∧ ¬ uy = ly) ∨ ¬ v3 = lx := by
          by_cases h : v3 = lx
          · by_cases h' : uy = ly
            · exact .inl ⟨h, h'⟩
            · exact .inr (.inl ⟨h, h'⟩)
          · exact .inr (.inr h)
        rcases hcase with ⟨hcx, hcy⟩ | hcase
        · skip
          have hS0 : (fun u : World => u.cell? ⟨b4, 0, none⟩ = some (.int .i64 v3) ∧ u.cell? ⟨b4, 1, none⟩ = some (.int .i64 uy) ∧ u.cell? ⟨g5, q * 2, none⟩ = some (.int .i64 v3) ∧ u.cell? ⟨g5, q * 2 + 1, none⟩ = some (.int .i64 uy)) X.drew := by
            obtain ⟨c0, c1⟩ := blk_2 D4
            exact ⟨c0, c1, by rw [hcx]; exact e0, by rw [hcy]; exact e1⟩
          have hpk := pick_rd 20 (p + 1 + 1) a len cap _ X.drew (by omega) (by omega) RX.drew
          clear e0 e1 hcx hcy
          go_region_held3 (fun u : World => u.cell? ⟨b4, 0, none⟩ = some (.int .i64 v3) ∧ u.cell? ⟨b4, 1, none⟩ = some (.int .i64 uy) ∧ u.cell? ⟨g5, q * 2, none⟩ = some (.int .i64 v3) ∧ u.cell? ⟨g5, q * 2 + 1, none⟩ = some (.int .i64 uy)) (first | exact hS0 | exact cells4O O (by assumption) (by omega) (by omega) | exact cells4O O hS0 (by omega) (by omega)) (first | (go_at_call 44; (with_reducible refine hpk.mono ?_); rintro e w9 ⟨v9, rfl, ve, vf, RF, O⟩))
          have F4 := keepO O (show X.drew.heap[b4]? = _ from D4) (by omega)
          have z9 := O.size
          have zdr : X.drew.heap.size = X.heap.size := rfl
          have ownF := ownX.kept (w' := w9) (row := some w.heap.size) ⟨O.os, O.tape, O.output, O.size, fun j hj hne => O.block j (fun e => hne (by rw [e])) hj⟩ (.inr (fun e => by have e' : g5 = w.heap.size := Option.some.inj e; omega))
          have PF : Only w.heap.size w1 w9 := PX.drew.trans O
          obtain ⟨c0, c1⟩ := blk_2 F4
          by_cases h0 : v9 = 0
          · subst h0
            go_wp2_with (at_builtin; refine wpList_append_lies _ rfl _ _ _ rfl (b4 + 1) 42 i0 _ 2 16 Tryd.underlying23 hi0 hz0 hz1 hz2 rfl (by omega) _ _ _ rfl (ownF.alloc _) ⟨w9.heap.size, 0, none⟩ 1 1 [.int .i64 v3, .int .i64 uy] rfl rfl (World.news_of_block (cs := #[.int .i64 v3, .int .i64 uy]) (t := 42) (fr := (0, 0)) (heap_alloc_new w9 _)) (by simp [Value.oneCell']) (by omega) (by simp [maxLen]; omega) (by omega) (by simp; omega) (w9.heap.size + 1) (by simp) ?_; intro gg cap' w8 hown1 hgrow hat hlt1)
            have zw8 := hgrow.size
            rw [World.size_alloc] at zw8
            go_roundw
            case rel =>
              refine ⟨l ++ [(v3, uy)], v3, uy, p + 1 + 1 + 1, m', q + 1, by simp, pb_snoc hPB (pb_of (by omega) (by omega) (by omega) (by omega)), by simp [hl1], by omega, ⟨by omega, by omega, by omega, by omega⟩, ?_, by rw [ptCells_snoc]; exact hown1, by omega, (RF.alloc _).grown hgrow (fun j e => by have e' : g5 = j := Option.some.inj e; omega), (PF.alloc _).grown hgrow (fun j e => by have e' : g5 = j := Option.some.inj e; omega), by omega⟩
              exact (hgrow.block b4 (by simp; omega) (fun e => by have e' : b4 = g5 := Option.some.inj e; omega)).trans ((Below.heap_alloc _ _ _ (blk_lt F4)).trans F4)
            case measure => simp [intOf]
          · have y1 : (v9 == 0) = false := by simpa using h0
            have y2 : (v9 = 0) = False := by simpa using h0
            clear h0
            go_wp2_with fail
            go_roundw
            case rel => exact ⟨l, v3, uy, p + 1 + 1 + 1, m', q, by simp, hPB, hl1, by omega, ⟨by omega, by omega, by omega, by omega⟩, F4, ownF, by omega, RF, PF, by omega⟩
            case measure => simp [intOf]
        have q0 := cell_regrown e0
        have q1 := cell_regrown e1
        obtain ⟨s0, s1⟩ := reg_2 D4
        rcases hcase with ⟨hcx, hcy⟩ | hcx
        · skip
          have y1 : (v3 == lx) = true := by simpa using hcx
          have y2 : (v3 = lx) = True := by simpa using hcx
          have y3 : (uy == ly) = false := by simpa using hcy
          have y4 : (uy = ly) = False := by simpa using hcy
          have y5 : (v3 != lx) = false := by unfold bne; rw [y1]; rfl
          have y6 : (uy != ly) = true := by unfold bne; rw [y3]; rfl
          clear hcx hcy
          refine wp_region_quiet_below (by kernel_rfl) (by kernel_rfl) ?_
          repeat (first | go_big_quiet_step (fail))
          refine wpQuiet_nil ?_
          intro _ hw'
          obtain ⟨⟨dq, osq⟩, hw''⟩ := hw'
          subst hw''
          have J := below_regrown X dq osq
          generalize grow (redrawn X dq) osq = w9 at J ⊢
          have F4 := keep J D4
          have z9 := J.size
          have ownF := ownX.kept (w' := w9) (row := none) ⟨J.os, J.tape, J.output, J.size, fun j hj _ => J.block j hj⟩ (Classical.em _)
          have RF := RX.below J
          have PF : Only w.heap.size w1 w9 := PX.trans ⟨J.os, J.tape, J.output, J.size, fun j _ hj => J.block j hj⟩
          obtain ⟨c0, c1⟩ := blk_2 F4
          go_wp2_with (at_builtin; refine wpList_append_lies _ rfl _ _ _ rfl (b4 + 1) 42 i0 _ 2 16 Tryd.underlying23 hi0 hz0 hz1 hz2 rfl (by omega) _ _ _ rfl (ownF.alloc _) ⟨w9.heap.size, 0, none⟩ 1 1 [.int .i64 v3, .int .i64 uy] rfl rfl (World.news_of_block (cs := #[.int .i64 v3, .int .i64 uy]) (t := 42) (fr := (0, 0)) (heap_alloc_new w9 _)) (by simp [Value.oneCell']) (by omega) (by simp [maxLen]; omega) (by omega) (by simp; omega) (w9.heap.size + 1) (by simp) ?_; intro gg cap' w8 hown1 hgrow hat hlt1)
          have zw8 := hgrow.size
          rw [World.size_alloc] at zw8
          go_roundw
          case rel =>
            refine ⟨l ++ [(v3, uy)], v3, uy, p + 1 + 1, m', q + 1, by simp, pb_snoc hPB (pb_of (by omega) (by omega) (by omega) (by omega)), by simp [hl1], by omega, ⟨by omega, by omega, by omega, by omega⟩, ?_, by rw [ptCells_snoc]; exact hown1, by omega, (RF.alloc _).grown hgrow (fun j e => by have e' : g5 = j := Option.some.inj e; omega), (PF.alloc _).grown hgrow (fun j e => by have e' : g5 = j := Option.some.inj e; omega), by omega⟩
            exact (hgrow.block b4 (by simp; omega) (fun e => by have e' : b4 = g5 := Option.some.inj e; omega)).trans ((Below.heap_alloc _ _ _ (blk_lt F4)).trans F4)
          case measure => simp [intOf]
        · skip
          have y1 : (v3 == lx) = false := by simpa using hcx
          have y2 : (v3 = lx) = False := by simpa using hcx
          have y5 : (v3 != lx) = true := by unfold bne; rw [y1]; rfl
          clear hcx
          refine wp_region_quiet_below (by kernel_rfl) (by kernel_rfl) ?_
          repeat (first | go_big_quiet_step (fail))
          refine wpQuiet_nil ?_
          intro _ hw'
          obtain ⟨⟨dq, osq⟩, hw''⟩ := hw'
          subst hw''
          have J := below_regrown X dq osq
          generalize grow (redrawn X dq) osq = w9 at J ⊢
          have F4 := keep J D4
          have z9 := J.size
          have ownF := ownX.kept (w' := w9) (row := none) ⟨J.os, J.tape, J.output, J.size, fun j hj _ => J.block j hj⟩ (Classical.em _)
          have RF := RX.below J
          have PF : Only w.heap.size w1 w9 := PX.trans ⟨J.os, J.tape, J.output, J.size, fun j _ hj => J.block j hj⟩
          obtain ⟨c0, c1⟩ := blk_2 F4
          go_wp2_with (at_builtin; refine wpList_append_lies _ rfl _ _ _ rfl (b4 + 1) 42 i0 _ 2 16 Tryd.underlying23 hi0 hz0 hz1 hz2 rfl (by omega) _ _ _ rfl (ownF.alloc _) ⟨w9.heap.size, 0, none⟩ 1 1 [.int .i64 v3, .int .i64 uy] rfl rfl (World.news_of_block (cs := #[.int .i64 v3, .int .i64 uy]) (t := 42) (fr := (0, 0)) (heap_alloc_new w9 _)) (by simp [Value.oneCell']) (by omega) (by simp [maxLen]; omega) (by omega) (by simp; omega) (w9.heap.size + 1) (by simp) ?_; intro gg cap' w8 hown1 hgrow hat hlt1)
          have zw8 := hgrow.size
          rw [World.size_alloc] at zw8
          go_roundw
          case rel =>
            refine ⟨l ++ [(v3, uy)], v3, uy, p + 1 + 1, m', q + 1, by simp, pb_snoc hPB (pb_of (by omega) (by omega) (by omega) (by omega)), by simp [hl1], by omega, ⟨by omega, by omega, by omega, by omega⟩, ?_, by rw [ptCells_snoc]; exact hown1, by omega, (RF.alloc _).grown hgrow (fun j e => by have e' : g5 = j := Option.some.inj e; omega), (PF.alloc _).grown hgrow (fun j e => by have e' : g5 = j := Option.some.inj e; omega), by omega⟩
            exact (hgrow.block b4 (by simp; omega) (fun e => by have e' : b4 = g5 := Option.some.inj e; omega)).trans ((Below.heap_alloc _ _ _ (blk_lt F4)).trans F4)
          case measure => simp [intOf]
      · skip
        go_wp2_with fail
        refine (pick_rd 10 (p + 1) a len cap _ _ (by omega) (by omega) R).mono ?_
        clear R
        rintro e w7 ⟨v3, rfl, vc, vd, R, O7⟩
        have C4 := keepO (O6.trans O7) B4 (by omega)
        have own7 := hown.kept (w' := w7) (row := some w.heap.size) ⟨(O6.trans O7).os, (O6.trans O7).tape, (O6.trans O7).output, (O6.trans O7).size, fun j hj hne => (O6.trans O7).block j (fun e => hne (by rw [e])) hj⟩ (by rcases Classical.em (u5.ownBlock = none) with h | h; exact .inl h; exact .inr (fun e => by have := (hown.lt _ e).1; omega))
        have P7 := (P.trans O6).trans O7
        have z67 := (O6.trans O7).size
        obtain ⟨X, hX⟩ : ∃ X, X = w7.setCell ⟨b4, 1, none⟩ (.int .i64 v3) := ⟨_, rfl⟩
        have D4 : X.heap[b4]? = some (.cells #[.int .i64 ux, .int .i64 v3] 42) := by rw [hX, setCell_row C4 _]; rfl
        have GX : w7.grownBy X (some b4) := by
          rw [hX]
          exact ⟨rfl, rfl, rfl, by simp, fun q hq hqne => by rw [Below.heap_setCell _ _ _ _ (by show q ≠ b4; exact fun e => hqne (by rw [e]))]⟩
        have ownX := own7.kept GX (by rcases Classical.em (u5.ownBlock = none) with h | h; exact .inl h; exact .inr (fun e => by have := (own7.lt _ e).1; omega))
        have PX : Only w.heap.size w1 X := by rw [hX]; exact P7.set (.inr (by show w1.heap.size ≤ b4; omega)) _
        have RX : Rd X w.heap.size (p + 1 + 1) a len cap := by rw [hX]; exact R.set (by show w.heap.size < b4; omega) _
        have zX : X.heap.size = w7.heap.size := by rw [hX]; simp
        obtain ⟨c0, c1, cf0, cf1⟩ := blk2 C4
        go_wp2_with fail
        clear c0 c1 cf0 cf1
        rw [← hX]
        clear hX GX own7 C4 P7 R hown P B4 O6 O7
        obtain ⟨g5, c5, rfl, _, _⟩ := ownX.form (by omega)
        have hg5 := (ownX.lt g5 rfl).1
        have hg5X := (ownX.lt g5 rfl).2
        obtain ⟨_, hPX⟩ := (blk_of_own ownX hl1).1.pts' hl1
        rcases hPX with h0 | ⟨b9, o9, h9, hb9, hc9⟩
        · omega
        cases h9
        obtain ⟨e0, e1⟩ := hc9 q (by omega)
        rw [Nat.zero_add] at e0 e1
        obtain ⟨lx, hlx⟩ : ∃ lx, lx = (ptAt l q).1 := ⟨_, rfl⟩
        obtain ⟨ly, hly⟩ : ∃ ly, ly = (ptAt l q).2 := ⟨_, rfl⟩
        rw [← hlx] at e0
        rw [← hly] at e1
        clear hc9 hlx hly
        have k3 : IntKind.i64.wrap ((q : Int)) = (q : Int) := wrap_small (by omega) (by omega)
        have k4 : (0 : Int) ≤ (q : Int) := Int.natCast_nonneg _
        have k5 : (q : Int) < (q : Int) + 1 := by omega
        have k6 : (q : Int) < ((q + 1 : Nat) : Int) := by omega
        have hcase : (ux = lx ∧ v3 = ly) ∨ (ux = lx ∧ ¬ v3 = ly) ∨ ¬ ux = lx := by
          by_cases h : ux = lx
          · by_cases h' : v3 = ly
            · exact .inl ⟨h, h'⟩
            · exact .inr (.inl ⟨h, h'⟩)
          · exact .inr (.inr h)
        rcases hcase with ⟨hcx, hcy⟩ | hcase
        · skip
          have hS0 : (fun u : World => u.cell? ⟨b4, 0, none⟩ = some (.int .i64 ux) ∧ u.cell? ⟨b4, 1, none⟩ = some (.int .i64 v3) ∧ u.cell? ⟨g5, q * 2, none⟩ = some (.int .i64 ux) ∧ u.cell? ⟨g5, q * 2 + 1, none⟩ = some (.int .i64 v3)) X.drew := by
            obtain ⟨c0, c1⟩ := blk_2 D4
            exact ⟨c0, c1, by rw [hcx]; exact e0, by rw [hcy]; exact e1⟩
          have hpk := pick_rd 20 (p + 1 + 1) a len cap _ X.drew (by omega) (by omega) RX.drew
          clear e0 e1 hcx hcy
          go_region_held3 (fun u : World => u.cell? ⟨b4, 0, none⟩ = some (.int .i64 ux) ∧ u.cell? ⟨b4, 1, none⟩ = some (.int .i64 v3) ∧ u.cell? ⟨g5, q * 2, none⟩ = some (.int .i64 ux) ∧ u.cell? ⟨g5, q * 2 + 1, none⟩ = some (.int .i64 v3)) (first | exact hS0 | exact cells4O O (by assumption) (by omega) (by omega) | exact cells4O O hS0 (by omega) (by omega)) (first | (go_at_call 44; (with_reducible refine hpk.mono ?_); rintro e w9 ⟨v9, rfl, ve, vf, RF, O⟩))
          have F4 := keepO O (show X.drew.heap[b4]? = _ from D4) (by omega)
          have z9 := O.size
          have zdr : X.drew.heap.size = X.heap.size := rfl
          have ownF := ownX.kept (w' := w9) (row := some w.heap.size) ⟨O.os, O.tape, O.output, O.size, fun j hj hne => O.block j (fun e => hne (by rw [e])) hj⟩ (.inr (fun e => by have e' : g5 = w.heap.size := Option.some.inj e; omega))
          have PF : Only w.heap.size w1 w9 := PX.drew.trans O
          obtain ⟨c0, c1⟩ := blk_2 F4
          by_cases h0 : v9 = 0
          · subst h0
            go_wp2_with (at_builtin; refine wpList_append_lies _ rfl _ _ _ rfl (b4 + 1) 42 i0 _ 2 16 Tryd.underlying23 hi0 hz0 hz1 hz2 rfl (by omega) _ _ _ rfl (ownF.alloc _) ⟨w9.heap.size, 0, none⟩ 1 1 [.int .i64 ux, .int .i64 v3] rfl rfl (World.news_of_block (cs := #[.int .i64 ux, .int .i64 v3]) (t := 42) (fr := (0, 0)) (heap_alloc_new w9 _)) (by simp [Value.oneCell']) (by omega) (by simp [maxLen]; omega) (by omega) (by simp; omega) (w9.heap.size + 1) (by simp) ?_; intro gg cap' w8 hown1 hgrow hat hlt1)
            have zw8 := hgrow.size
            rw [World.size_alloc] at zw8
            go_roundw
            case rel =>
              refine ⟨l ++ [(ux, v3)], ux, v3, p + 1 + 1 + 1, m', q + 1, by simp, pb_snoc hPB (pb_of (by omega) (by omega) (by omega) (by omega)), by simp [hl1], by omega, ⟨by omega, by omega, by omega, by omega⟩, ?_, by rw [ptCells_snoc]; exact hown1, by omega, (RF.alloc _).grown hgrow (fun j e => by have e' : g5 = j := Option.some.inj e; omega), (PF.alloc _).grown hgrow (fun j e => by have e' : g5 = j := Option.some.inj e; omega), by omega⟩
              exact (hgrow.block b4 (by simp; omega) (fun e => by have e' : b4 = g5 := Option.some.inj e; omega)).trans ((Below.heap_alloc _ _ _ (blk_lt F4)).trans F4)
            case measure => simp [intOf]
          · have y1 : (v9 == 0) = false := by simpa using h0
            have y2 : (v9 = 0) = False := by simpa using h0
            clear h0
            go_wp2_with fail
            go_roundw
            case rel => exact ⟨l, ux, v3, p + 1 + 1 + 1, m', q, by simp, hPB, hl1, by omega, ⟨by omega, by omega, by omega, by omega⟩, F4, ownF, by omega, RF, PF, by omega⟩
            case measure => simp [intOf]
        have q0 := cell_regrown e0
        have q1 := cell_regrown e1
        obtain ⟨s0, s1⟩ := reg_2 D4
        rcases hcase with ⟨hcx, hcy⟩ | hcx
        · skip
          have y1 : (ux == lx) = true := by simpa using hcx
          have y2 : (ux = lx) = True := by simpa using hcx
          have y3 : (v3 == ly) = false := by simpa using hcy
          have y4 : (v3 = ly) = False := by simpa using hcy
          have y5 : (ux != lx) = false := by unfold bne; rw [y1]; rfl
          have y6 : (v3 != ly) = true := by unfold bne; rw [y3]; rfl
          clear hcx hcy
          refine wp_region_quiet_below (by kernel_rfl) (by kernel_rfl) ?_
          repeat (first | go_big_quiet_step (fail))
          refine wpQuiet_nil ?_
          intro _ hw'
          obtain ⟨⟨dq, osq⟩, hw''⟩ := hw'
          subst hw''
          have J := below_regrown X dq osq
          generalize grow (redrawn X dq) osq = w9 at J ⊢
          have F4 := keep J D4
          have z9 := J.size
          have ownF := ownX.kept (w' := w9) (row := none) ⟨J.os, J.tape, J.output, J.size, fun j hj _ => J.block j hj⟩ (Classical.em _)
          have RF := RX.below J
          have PF : Only w.heap.size w1 w9 := PX.trans ⟨J.os, J.tape, J.output, J.size, fun j _ hj => J.block j hj⟩
          obtain ⟨c0, c1⟩ := blk_2 F4
          go_wp2_with (at_builtin; refine wpList_append_lies _ rfl _ _ _ rfl (b4 + 1) 42 i0 _ 2 16 Tryd.underlying23 hi0 hz0 hz1 hz2 rfl (by omega) _ _ _ rfl (ownF.alloc _) ⟨w9.heap.size, 0, none⟩ 1 1 [.int .i64 ux, .int .i64 v3] rfl rfl (World.news_of_block (cs := #[.int .i64 ux, .int .i64 v3]) (t := 42) (fr := (0, 0)) (heap_alloc_new w9 _)) (by simp [Value.oneCell']) (by omega) (by simp [maxLen]; omega) (by omega) (by simp; omega) (w9.heap.size + 1) (by simp) ?_; intro gg cap' w8 hown1 hgrow hat hlt1)
          have zw8 := hgrow.size
          rw [World.size_alloc] at zw8
          go_roundw
          case rel =>
            refine ⟨l ++ [(ux, v3)], ux, v3, p + 1 + 1, m', q + 1, by simp, pb_snoc hPB (pb_of (by omega) (by omega) (by omega) (by omega)), by simp [hl1], by omega, ⟨by omega, by omega, by omega, by omega⟩, ?_, by rw [ptCells_snoc]; exact hown1, by omega, (RF.alloc _).grown hgrow (fun j e => by have e' : g5 = j := Option.some.inj e; omega), (PF.alloc _).grown hgrow (fun j e => by have e' : g5 = j := Option.some.inj e; omega), by omega⟩
            exact (hgrow.block b4 (by simp; omega) (fun e => by have e' : b4 = g5 := Option.some.inj e; omega)).trans ((Below.heap_alloc _ _ _ (blk_lt F4)).trans F4)
          case measure => simp [intOf]
        · skip
          have y1 : (ux == lx) = false := by simpa using hcx
          have y2 : (ux = lx) = False := by simpa using hcx
          have y5 : (ux != lx) = true := by unfold bne; rw [y1]; rfl
          clear hcx
          refine wp_region_quiet_below (by kernel_rfl) (by kernel_rfl) ?_
          repeat (first | go_big_quiet_step (fail))
          refine wpQuiet_nil ?_
          intro _ hw'
          obtain ⟨⟨dq, osq⟩, hw''⟩ := hw'
          subst hw''
          have J := below_regrown X dq osq
          generalize grow (redrawn X dq) osq = w9 at J ⊢
          have F4 := keep J D4
          have z9 := J.size
          have ownF := ownX.kept (w' := w9) (row := none) ⟨J.os, J.tape, J.output, J.size, fun j hj _ => J.block j hj⟩ (Classical.em _)
          have RF := RX.below J
          have PF : Only w.heap.size w1 w9 := PX.trans ⟨J.os, J.tape, J.output, J.size, fun j _ hj => J.block j hj⟩
          obtain ⟨c0, c1⟩ := blk_2 F4
          go_wp2_with (at_builtin; refine wpList_append_lies _ rfl _ _ _ rfl (b4 + 1) 42 i0 _ 2 16 Tryd.underlying23 hi0 hz0 hz1 hz2 rfl (by omega) _ _ _ rfl (ownF.alloc _) ⟨w9.heap.size, 0, none⟩ 1 1 [.int .i64 ux, .int .i64 v3] rfl rfl (World.news_of_block (cs := #[.int .i64 ux, .int .i64 v3]) (t := 42) (fr := (0, 0)) (heap_alloc_new w9 _)) (by simp [Value.oneCell']) (by omega) (by simp [maxLen]; omega) (by omega) (by simp; omega) (w9.heap.size + 1) (by simp) ?_; intro gg cap' w8 hown1 hgrow hat hlt1)
          have zw8 := hgrow.size
          rw [World.size_alloc] at zw8
          go_roundw
          case rel =>
            refine ⟨l ++ [(ux, v3)], ux, v3, p + 1 + 1, m', q + 1, by simp, pb_snoc hPB (pb_of (by omega) (by omega) (by omega) (by omega)), by simp [hl1], by omega, ⟨by omega, by omega, by omega, by omega⟩, ?_, by rw [ptCells_snoc]; exact hown1, by omega, (RF.alloc _).grown hgrow (fun j e => by have e' : g5 = j := Option.some.inj e; omega), (PF.alloc _).grown hgrow (fun j e => by have e' : g5 = j := Option.some.inj e; omega), by omega⟩
            exact (hgrow.block b4 (by simp; omega) (fun e => by have e' : b4 = g5 := Option.some.inj e; omega)).trans ((Below.heap_alloc _ _ _ (blk_lt F4)).trans F4)
          case measure => simp [intOf]
end Go.Proofs.YtfdnadiliedikaaDoor
