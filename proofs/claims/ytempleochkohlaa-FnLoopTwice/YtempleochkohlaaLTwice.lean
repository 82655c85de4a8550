/-
  OUR OWN TEXT. The law FnLoopTwice, walked: whatever bytes come in, it answers true and writes nothing that was there.
-/
import Derived.Test.YtempleochkohlaaLuL
import Derived.Test.YtempleochkohlaaOk
import Derived.Test.YtempleochkohlaaSOk
import Derived.Test.YtempleochkohlaaLoopL
import Derived.Deep.RegionHeld3
namespace Go.Proofs.Ytempleochkohlaa
open Go.RowKit Go.Sort

theorem loopTwice_long (w : World) (a0 a1 : Option Addr) (len0 cap0 len1 cap1 : Nat) (h : 1048576 < len0 ∨ (len0 ≤ 1048576 ∧ 1048576 < len1)) :
    Calls Try.prog 5 #[.slice a0 len0 cap0, .slice a1 len1 cap1] w fun e w' => e = .returned (.bool true) ∧ Below w.heap.size w w' := by
  rcases h with h | ⟨h, h2⟩
  · go_enter Try.func5, Try.ntmps5
    go_wp2
    go_ret
    exact ⟨rfl, bw_refl _⟩
  · have h' : ¬ (1048576 < len0) := by omega
    go_enter Try.func5, Try.ntmps5
    go_wp2
    go_ret
    exact ⟨rfl, bw_refl _⟩
theorem blk_at {W : World} {g c n j : Nat} {l : List P2} (h : PtBlk W g c l n) (hj : j < n) : W.cell? ⟨g, j * 2, none⟩ = some (.int .i64 (ptAt l j).1) ∧ W.cell? ⟨g, j * 2 + 1, none⟩ = some (.int .i64 (ptAt l j).2) := by
  obtain ⟨cur, h, _, hc⟩ := h
  rw [row_cell h, row_cell h]; exact hc j hj
theorem blk_take {W : World} {g c n m : Nat} {l : List P2} (h : PtBlk W g c l n) (hm : m ≤ n) : PtBlk W g c (l.take m) m := by
  obtain ⟨cur, h, hs, hc⟩ := h
  refine ⟨cur, h, hs, fun j hj => ?_⟩
  have e : ptAt (l.take m) j = ptAt l j := by simp [ptAt, hj]
  rw [e]; exact hc j (by omega)
theorem twice_no {l : List P2} {k : Nat} (hk : k < l.length) : okV (l ++ [ptAt l k]) = false := by
  rw [Bool.eq_false_iff]
  intro h
  have hO := (okV_iff _).1 h
  have hlen : (l ++ [ptAt l k]).length = l.length + 1 := by simp
  refine hO.twice (i := k) (k := l.length) (by omega) (by omega) (by omega) ?_
  unfold ptAt
  rw [List.getElem?_append_left hk, List.getElem?_concat_length]
  simp [hk]
theorem take2_no (l : List P2) : okV (l.take 2) = false := by
  unfold okV
  rw [decide_eq_false (by rw [List.length_take]; omega)]; rfl
set_option maxRecDepth 100000 in
set_option maxHeartbeats 4000000 in
theorem loopTwice_walk (w : World) (a0 : Option Addr) (len0 cap0 : Nat) (z0 : List Int) (r0 : IsRow .u8 w a0 len0 cap0 z0) (a1 : Option Addr) (len1 cap1 : Nat) (z1 : List Int) (_ : IsRow .u8 w a1 len1 cap1 z1) :
    Calls Try.prog 5 #[.slice a0 len0 cap0, .slice a1 len1 cap1] w fun e w' => e = .returned (.bool true) ∧ Below w.heap.size w w' := by
  by_cases hl : 1048576 < len0 ∨ (len0 ≤ 1048576 ∧ 1048576 < len1)
  · exact loopTwice_long w a0 a1 len0 cap0 len1 cap1 hl
  have hl0 : len0 ≤ 1048576 := by omega
  have hl1 : len1 ≤ 1048576 := by omega
  clear hl
  go_enter Try.func5, Try.ntmps5
  go_wp2_with fail
  refine (drawOk_any w _ r0 (bw_refl _)).mono ?_
  rintro e w1 ⟨vv, l, n, rfl, ⟨g, c, rfl, n3, n7, hl, hnc, hcm, hbg, hb⟩, J1⟩
  have hP1 := hb.pts' hl
  cases hok : okV l
  case false =>
    go_wp2_with fail
    refine (ok_any _ n c l (by omega) _ hP1).mono ?_
    rw [hok]
    rintro e w2 ⟨rfl, J2⟩
    go_wp2_with fail
    refine (sOk_any _ n c l (by omega) _ ((hP1.below J2).grow J2.size)).mono ?_
    rw [hok]
    rintro e w3 ⟨rfl, J3⟩
    have K3 := bw_trans J2 J3
    go_wp2_with fail
    refine (sOk_any _ n c l (by omega) _ ((hP1.below K3).grow K3.size)).mono ?_
    rw [hok]
    rintro e w4 ⟨rfl, J4⟩
    go_wp2_with fail
    go_ret
    exact ⟨rfl, bw_trans J1 (bw_trans K3 J4)⟩
  case true =>
    have hO : Hid (OkL l) := (okV_iff l).1 hok
    obtain ⟨t, hk⟩ : ∃ t : Nat, (len1 : Int).tmod (n : Int) = (t : Int) := ⟨((len1 : Int).tmod (n : Int)).toNat, by rw [Int.toNat_of_nonneg]; exact (tmod_bd (len1 : Int) n (by omega) (by omega)).1⟩
    have hkn : t < n := by have := (tmod_bd (len1 : Int) (n : Int) (by omega) (by omega)).2; omega
    have hz : (n = 0) = False := by simp; omega
    have HL : Hid (l.length = n) := hl
    go_wp2_with fail
    refine (ok_any _ n c l (by omega) _ hP1).mono ?_
    rw [hok]
    rintro e w2 ⟨rfl, J2⟩
    go_wp2_with fail
    refine (sOk_any _ n c l (by omega) _ ((hP1.below J2).grow J2.size)).mono ?_
    rw [hok]
    rintro e w3 ⟨rfl, J3⟩
    have K3 := bw_trans J1 (bw_trans J2 J3)
    replace hb := hb.below (bw_trans J2 J3)
    clear hP1 J2 J3 J1
    go_wp2_with fail
    go_loopw [7] (fun i wr => ∃ k : Nat, k ≤ n ∧ i = .int .i64 k ∧ Below w3.heap.size w3 wr) (fun i _ => n - (intOf i).toNat)
    case atStart => exact ⟨0, Nat.zero_le _, rfl, bw_refl _⟩
    case round =>
      obtain ⟨i, hi, rfl, hnx⟩ := hrel
      by_cases hlt : i < n
      case pos =>
        go_wp2_with fail
        go_loopw [8] (fun k wr => ∃ k' : Nat, k' ≤ i ∧ k = .int .i64 k' ∧ Below w3.heap.size w3 wr) (fun k _ => i - (intOf k).toNat)
        case atStart => exact ⟨0, Nat.zero_le _, rfl, hnx⟩
        case round =>
          obtain ⟨k, hk', rfl, hny⟩ := hrel
          by_cases hlt2 : k < i
          case neg =>
            go_wp2_with fail
            go_roundw
            case rel => exact ⟨i + 1, by omega, by simp, hny⟩
            case measure => simp [intOf]; omega
          case pos =>
            have hne := hO.out.twice (i := i) (k := k) (by rw [HL.out]; exact hlt) (by rw [HL.out]; omega) (by omega)
            obtain ⟨_, hPc⟩ := hb.pts' HL.out
            rcases hPc with h0 | ⟨b, off, hbo, hbl, hcs⟩
            · omega
            cases hbo
            have l0 := cell_regrown ((hny.cell (p := ⟨g, 0 + i * 2, none⟩) hbl).trans (hcs i hlt).1)
            have l1 := cell_regrown ((hny.cell (p := ⟨g, 0 + i * 2 + 1, none⟩) hbl).trans (hcs i hlt).2)
            have m0 := cell_regrown ((hny.cell (p := ⟨g, 0 + k * 2, none⟩) hbl).trans (hcs k (by omega)).1)
            have m1 := cell_regrown ((hny.cell (p := ⟨g, 0 + k * 2 + 1, none⟩) hbl).trans (hcs k (by omega)).2)
            simp only [Nat.zero_add] at l0 l1 m0 m1
            clear hcs
            have i0 : (0 : Int) ≤ (i : Int) := Int.natCast_nonneg _
            have i1 : (i : Int) < (n : Int) := by omega
            have i2 : (0 : Int) ≤ (k : Int) := Int.natCast_nonneg _
            have i3 : (k : Int) < (n : Int) := by omega
            have hfld : ((ptAt l i).1 == (ptAt l k).1) = false ∨ ((ptAt l i).1 = (ptAt l k).1 ∧ ((ptAt l i).2 == (ptAt l k).2) = false) := by
              by_cases e1 : (ptAt l i).1 = (ptAt l k).1
              · right; refine ⟨e1, ?_⟩; rw [beq_eq_false_iff_ne]; exact fun e2 => hne (Prod.ext e1 e2)
              · left; simpa using e1
            clear hne
            generalize (ptAt l i).1 = xi at *
            generalize (ptAt l i).2 = yi at *
            generalize (ptAt l k).1 = xk at *
            generalize (ptAt l k).2 = yk at *
            rcases hfld with hf | ⟨rfl, hf⟩
            · go_wp2_with fail
              refine wp_region_quiet_below (by kernel_rfl) (by kernel_rfl) ?_
              repeat (first | go_big_quiet_step (fail))
              refine wpQuiet_nil ?_
              intro _ hw'
              obtain ⟨⟨dq, osq⟩, hw''⟩ := hw'
              subst hw''
              have J := below_regrown wr dq osq
              generalize grow (redrawn wr dq) osq = w4 at J ⊢
              go_wp2_with fail
              go_roundw
              case rel => exact ⟨k + 1, by omega, by simp, bw_trans hny J⟩
              case measure => simp [intOf]; omega
            · go_wp2_with fail
              refine wp_region_quiet_below (by kernel_rfl) (by kernel_rfl) ?_
              repeat (first | go_big_quiet_step (fail))
              refine wpQuiet_nil ?_
              intro _ hw'
              obtain ⟨⟨dq, osq⟩, hw''⟩ := hw'
              subst hw''
              have J := below_regrown wr dq osq
              generalize grow (redrawn wr dq) osq = w4 at J ⊢
              go_wp2_with fail
              go_roundw
              case rel => exact ⟨k + 1, by omega, by simp, bw_trans hny J⟩
              case measure => simp [intOf]; omega
      case neg =>
        obtain rfl : i = n := by omega
        replace hb := hb.below hnx
        obtain ⟨i0, hi0, hz0, hz1, hz2⟩ := info_parts Try.infoPt
        have zg := hb.lt
        unfold maxLen at hcm
        obtain ⟨l0, l1⟩ := blk_at hb hkn
        have j0 : (0 : Int) ≤ (t : Int) := Int.natCast_nonneg _
        have j1 : (t : Int) < (i : Int) := by omega
        have hL : (ptCells l).length = i * 2 := by rw [ptCells_len, HL.out]
        have hL' : l.length = i := HL.out
        have BA : Below wr.heap.size wr ((wr.alloc (.cells #[] 24)).drew) := (by repeat (first | exact bw_refl _ | assumption | apply bw_drewN | apply bw_drew | apply bw_alloc | refine bw_set ?_ (by simp) _))
        have BB : Below wr.heap.size wr (((wr.alloc (.cells #[] 24)).alloc (.cells #[.int .i64 (ptAt l t).1, .int .i64 (ptAt l t).2] 24)).drew) := (by repeat (first | exact bw_refl _ | assumption | apply bw_drewN | apply bw_drew | apply bw_alloc | refine bw_set ?_ (by simp) _))
        have BC : Below wr.heap.size wr (((wr.alloc (.cells #[.int .i64 (ptAt l t).1, .int .i64 (ptAt l t).2] 24)).alloc (.cells #[] 24)).drew) := (by repeat (first | exact bw_refl _ | assumption | apply bw_drewN | apply bw_drew | apply bw_alloc | refine bw_set ?_ (by simp) _))
        have mA : ((wr.alloc (.cells #[] 24)).drew).ownsRow wr.heap.size 24 2 (.slice (some ⟨wr.heap.size, 0, none⟩) 0 0) 0 [] := (World.ownsRow_made wr #[] 0 (Nat.le_refl _) (by simp [maxLen]) rfl : _)
        have bA : PtBlk ((wr.alloc (.cells #[] 24)).drew) g c l i := hb.below (by repeat (first | exact bw_refl _ | assumption | apply bw_drewN | apply bw_drew | apply bw_alloc | refine bw_set ?_ (by simp) _))
        have mB : (((wr.alloc (.cells #[] 24)).alloc (.cells #[.int .i64 (ptAt l t).1, .int .i64 (ptAt l t).2] 24)).drew).ownsRow wr.heap.size 24 2 (.slice (some ⟨wr.heap.size, 0, none⟩) 0 0) 0 [] := ((World.ownsRow_made wr #[] 0 (Nat.le_refl _) (by simp [maxLen]) rfl : (wr.alloc (.cells #[] 24)).ownsRow wr.heap.size 24 2 (.slice (some ⟨wr.heap.size, 0, none⟩) 0 0) 0 []).alloc _ : _)
        have bB : PtBlk (((wr.alloc (.cells #[] 24)).alloc (.cells #[.int .i64 (ptAt l t).1, .int .i64 (ptAt l t).2] 24)).drew) g c l i := hb.below (by repeat (first | exact bw_refl _ | assumption | apply bw_drewN | apply bw_drew | apply bw_alloc | refine bw_set ?_ (by simp) _))
        have nB : (((wr.alloc (.cells #[] 24)).alloc (.cells #[.int .i64 (ptAt l t).1, .int .i64 (ptAt l t).2] 24)).drew).heap[wr.heap.size + 1]? = some (.cells #[.int .i64 (ptAt l t).1, .int .i64 (ptAt l t).2] 24) := heap_new1 wr _ _
        have mC : (((wr.alloc (.cells #[.int .i64 (ptAt l t).1, .int .i64 (ptAt l t).2] 24)).alloc (.cells #[] 24)).drew).ownsRow wr.heap.size 24 2 (.slice (some ⟨wr.heap.size + 1, 0, none⟩) 0 0) 0 [] := (by
          have := World.ownsRow_made (wr.alloc (.cells #[.int .i64 (ptAt l t).1, .int .i64 (ptAt l t).2] 24)) (base := wr.heap.size) (e := 24) (size := 2) #[] 0 (by simp) (by simp [maxLen]) rfl
          rw [size_new] at this
          exact this)
        have bC : PtBlk (((wr.alloc (.cells #[.int .i64 (ptAt l t).1, .int .i64 (ptAt l t).2] 24)).alloc (.cells #[] 24)).drew) g c l i := hb.below (by repeat (first | exact bw_refl _ | assumption | apply bw_drewN | apply bw_drew | apply bw_alloc | refine bw_set ?_ (by simp) _))
        have nC : (((wr.alloc (.cells #[.int .i64 (ptAt l t).1, .int .i64 (ptAt l t).2] 24)).alloc (.cells #[] 24)).drew).heap[wr.heap.size]? = some (.cells #[.int .i64 (ptAt l t).1, .int .i64 (ptAt l t).2] 24) := (heap_old _ _ (by simp)).trans (heap_new _ _)
        go_wp2_with fail
        go_region_held3 (fun w' => w'.cell? ⟨g, t * 2, none⟩ = some (.int .i64 (ptAt l t).1) ∧ w'.cell? ⟨g, t * 2 + 1, none⟩ = some (.int .i64 (ptAt l t).2))
          (first | go_keep | exact blk_at hb4 hkn | exact blk_at hb3 hkn | exact blk_at hb2 hkn)
          (first
            | (refine step_append_more (by rfl) _ _ _ (by rfl) wr.heap.size 24 i0 _ 2 16 Try.underlying30 hi0 hz0 hz1 hz2 rfl (by omega) _ 0 [] (by rfl) mA ⟨g, 0, none⟩ i c (ptCells l) (by rfl) hL (news_0 bA hL' (fun j u hu => hu)) (ptCells_one _) (by omega) (by simp [maxLen]; omega) (by omega) (by simp <;> omega) ?_; intro g1 c1 w1' hown1 hgr1 hg1; have hb2 : PtBlk w1' g c l i := blk_grown bA hgr1 (fun e => absurd (Option.some.inj e) (Nat.ne_of_lt zg)); have hgz := hgr1.size; have hownI : w1'.ownsRow wr.heap.size 24 2 (.slice (some ⟨g1, 0, none⟩) i c1) i (ptCells l) := (by simpa using hown1))
            | (refine step_append_more (by rfl) _ _ _ (by rfl) wr.heap.size 24 i0 _ 2 16 Try.underlying30 hi0 hz0 hz1 hz2 rfl (by omega) _ 0 [] (by rfl) mB ⟨g, 0, none⟩ i c (ptCells l) (by rfl) hL (news_0 bB hL' (fun j u hu => hu)) (ptCells_one _) (by omega) (by simp [maxLen]; omega) (by omega) (by simp <;> omega) ?_; intro g1 c1 w1' hown1 hgr1 hg1; have hb2 : PtBlk w1' g c l i := blk_grown bB hgr1 (fun e => absurd (Option.some.inj e) (Nat.ne_of_lt zg)); have hgz := hgr1.size; have hownI : w1'.ownsRow wr.heap.size 24 2 (.slice (some ⟨g1, 0, none⟩) i c1) i (ptCells l) := (by simpa using hown1); have hN := (hgr1.block (wr.heap.size + 1) (by simp <;> omega) (fun e => absurd (Option.some.inj e) (Nat.succ_ne_self _))).trans nB)
            | (refine step_append_more (by rfl) _ _ _ (by rfl) wr.heap.size 24 i0 _ 2 16 Try.underlying30 hi0 hz0 hz1 hz2 rfl (by omega) _ 0 [] (by rfl) mC ⟨g, 0, none⟩ i c (ptCells l) (by rfl) hL (news_0 bC hL' (fun j u hu => hu)) (ptCells_one _) (by omega) (by simp [maxLen]; omega) (by omega) (by simp <;> omega) ?_; intro g1 c1 w1' hown1 hgr1 hg1; have hb2 : PtBlk w1' g c l i := blk_grown bC hgr1 (fun e => absurd (Option.some.inj e) (Nat.ne_of_lt (Nat.lt_succ_of_lt zg))); have hgz := hgr1.size; have hownI : w1'.ownsRow wr.heap.size 24 2 (.slice (some ⟨g1, 0, none⟩) i c1) i (ptCells l) := (by simpa using hown1); have hN := (hgr1.block wr.heap.size (by simp <;> omega) (fun e => absurd (Option.some.inj e) (Nat.succ_ne_self _).symm)).trans nC)
            | (refine step_append_more (by rfl) _ _ _ (by rfl) wr.heap.size 24 i0 _ 2 16 Try.underlying30 hi0 hz0 hz1 hz2 rfl (by omega) _ i _ (by rfl) hownI ⟨wr.heap.size + 1, 0, none⟩ 1 1 [.int .i64 (ptAt l t).1, .int .i64 (ptAt l t).2] (by rfl) (by rfl) (World.news_of_block (cs := #[.int .i64 (ptAt l t).1, .int .i64 (ptAt l t).2]) (t := 24) (fr := (0, 0)) hN) (by simp [Value.oneCell']) (by omega) (by simp [maxLen]; omega) (by omega) (by first | (simp at hgz ⊢; omega) | (simp at hgz; omega)) ?_; intro g2 c2 w2' hown2 hgr2 hg2; have hb4 : PtBlk w2' g c l i := blk_grown hb2 hgr2 (fun e => absurd (Option.some.inj e) (Nat.ne_of_lt (Nat.lt_of_lt_of_le zg hg1))))
            | (refine step_append_more (by rfl) _ _ _ (by rfl) wr.heap.size 24 i0 _ 2 16 Try.underlying30 hi0 hz0 hz1 hz2 rfl (by omega) _ (0 + i) _ (by rfl) hown1 ⟨wr.heap.size + 1, 0, none⟩ 1 1 [.int .i64 (ptAt l t).1, .int .i64 (ptAt l t).2] (by rfl) (by rfl) (World.news_of_block (cs := #[.int .i64 (ptAt l t).1, .int .i64 (ptAt l t).2]) (t := 24) (fr := (0, 0)) hN) (by simp [Value.oneCell']) (by omega) (by simp [maxLen]; omega) (by omega) (by first | (simp at hgz ⊢; omega) | (simp at hgz; omega)) ?_; intro g2 c2 w2' hown2 hgr2 hg2; have hb4 : PtBlk w2' g c l i := blk_grown hb2 hgr2 (fun e => absurd (Option.some.inj e) (Nat.ne_of_lt (Nat.lt_of_lt_of_le zg hg1))))
            | (refine step_append_more (by rfl) _ _ _ (by rfl) wr.heap.size 24 i0 _ 2 16 Try.underlying30 hi0 hz0 hz1 hz2 rfl (by omega) _ i _ (by rfl) hownI ⟨wr.heap.size, 0, none⟩ 1 1 [.int .i64 (ptAt l t).1, .int .i64 (ptAt l t).2] (by rfl) (by rfl) (World.news_of_block (cs := #[.int .i64 (ptAt l t).1, .int .i64 (ptAt l t).2]) (t := 24) (fr := (0, 0)) hN) (by simp [Value.oneCell']) (by omega) (by simp [maxLen]; omega) (by omega) (by first | (simp at hgz ⊢; omega) | (simp at hgz; omega)) ?_; intro g2 c2 w2' hown2 hgr2 hg2; have hb4 : PtBlk w2' g c l i := blk_grown hb2 hgr2 (fun e => absurd (Option.some.inj e) (Nat.ne_of_lt (Nat.lt_of_lt_of_le zg hg1))))
            | (refine step_append_more (by rfl) _ _ _ (by rfl) wr.heap.size 24 i0 _ 2 16 Try.underlying30 hi0 hz0 hz1 hz2 rfl (by omega) _ (0 + i) _ (by rfl) hown1 ⟨wr.heap.size, 0, none⟩ 1 1 [.int .i64 (ptAt l t).1, .int .i64 (ptAt l t).2] (by rfl) (by rfl) (World.news_of_block (cs := #[.int .i64 (ptAt l t).1, .int .i64 (ptAt l t).2]) (t := 24) (fr := (0, 0)) hN) (by simp [Value.oneCell']) (by omega) (by simp [maxLen]; omega) (by omega) (by first | (simp at hgz ⊢; omega) | (simp at hgz; omega)) ?_; intro g2 c2 w2' hown2 hgr2 hg2; have hb4 : PtBlk w2' g c l i := blk_grown hb2 hgr2 (fun e => absurd (Option.some.inj e) (Nat.ne_of_lt (Nat.lt_of_lt_of_le zg hg1))))
            | (have hb3 : PtBlk (w1'.alloc (.cells #[.int .i64 (ptAt l t).1, .int .i64 (ptAt l t).2] 24)) g c l i := hb2.below (by repeat (first | exact bw_refl _ | assumption | apply bw_drewN | apply bw_drew | apply bw_alloc | refine bw_set ?_ (by simp) _)); refine step_append_more (by rfl) _ _ _ (by rfl) wr.heap.size 24 i0 _ 2 16 Try.underlying30 hi0 hz0 hz1 hz2 rfl (by omega) _ i _ (by rfl) (hownI.alloc _) ⟨w1'.heap.size, 0, none⟩ 1 1 [.int .i64 (ptAt l t).1, .int .i64 (ptAt l t).2] (by rfl) (by rfl) (World.news_of_block (cs := #[.int .i64 (ptAt l t).1, .int .i64 (ptAt l t).2]) (t := 24) (fr := (0, 0)) (heap_alloc_new w1' _)) (by simp [Value.oneCell']) (by omega) (by simp [maxLen]; omega) (by omega) (by first | (simp at hgz ⊢; omega) | (simp at hgz; omega)) ?_; intro g2 c2 w2' hown2 hgr2 hg2; have hb4 : PtBlk w2' g c l i := blk_grown hb3 hgr2 (fun e => absurd (Option.some.inj e) (Nat.ne_of_lt (Nat.lt_of_lt_of_le zg hg1))))
            | (have hb3 : PtBlk (w1'.alloc (.cells #[.int .i64 (ptAt l t).1, .int .i64 (ptAt l t).2] 24)) g c l i := hb2.below (by repeat (first | exact bw_refl _ | assumption | apply bw_drewN | apply bw_drew | apply bw_alloc | refine bw_set ?_ (by simp) _)); refine step_append_more (by rfl) _ _ _ (by rfl) wr.heap.size 24 i0 _ 2 16 Try.underlying30 hi0 hz0 hz1 hz2 rfl (by omega) _ (0 + i) _ (by rfl) (hown1.alloc _) ⟨w1'.heap.size, 0, none⟩ 1 1 [.int .i64 (ptAt l t).1, .int .i64 (ptAt l t).2] (by rfl) (by rfl) (World.news_of_block (cs := #[.int .i64 (ptAt l t).1, .int .i64 (ptAt l t).2]) (t := 24) (fr := (0, 0)) (heap_alloc_new w1' _)) (by simp [Value.oneCell']) (by omega) (by simp [maxLen]; omega) (by omega) (by first | (simp at hgz ⊢; omega) | (simp at hgz; omega)) ?_; intro g2 c2 w2' hown2 hgr2 hg2; have hb4 : PtBlk w2' g c l i := blk_grown hb3 hgr2 (fun e => absurd (Option.some.inj e) (Nat.ne_of_lt (Nat.lt_of_lt_of_le zg hg1)))))
        all_goals (
          have hown3 : w2'.ownsRow wr.heap.size 24 2 (.slice (some ⟨g2, 0, none⟩) (i + 1) c2) (i + 1) (ptCells (l ++ [ptAt l t])) := by rw [ptCells_snoc]; simpa using hown2
          obtain ⟨hb5, _, _, _⟩ := blk_of_own hown3 (by simp [hL'])
          have J1 : Below wr.heap.size wr w1' := by
            first
              | exact BA.grown hgr1 BA.size (fun j e => Nat.le_of_eq (Option.some.inj e))
              | exact BB.grown hgr1 BB.size (fun j e => Nat.le_of_eq (Option.some.inj e))
              | exact BC.grown hgr1 BC.size (fun j e => (by have h : wr.heap.size + 1 = j := Option.some.inj e; omega))
          have J2 : Below wr.heap.size wr w2' := by
            first
              | exact J1.grown hgr2 J1.size (fun j e => (by have h : g1 = j := Option.some.inj e; omega))
              | exact (bw_alloc J1 _).grown hgr2 (bw_alloc J1 _).size (fun j e => (by have h : g1 = j := Option.some.inj e; omega))
          clear hown1 hown2 hown3 hownI hgr1 hgr2 mA mB mC bA bB bC nB nC BA BB BC hb2 hL
          try clear hb3
          try clear hN
          go_wp2_with fail
          try simp only [Nat.zero_add]
          refine (ok_any _ (i + 1) c2 (l ++ [ptAt l t]) (by omega) _ (hb5.pts' (by simp [hL']))).mono ?_
          rw [twice_no (by rw [hL']; exact hkn)]
          rintro e w6 ⟨rfl, J6⟩
          have hb6 := blk_take (hb4.below J6) (m := 2) (by omega)
          have k1 : (2 : Int) ≤ (c : Int) := by omega
          go_wp2_with fail
          refine (ok_any _ 2 c (l.take 2) (by omega) _ (hb6.pts' (by rw [List.length_take]; omega))).mono ?_
          rw [take2_no]
          rintro e w7 ⟨rfl, J7⟩
          go_wp2_with fail
          go_ret
          exact ⟨ret_bool (by simp; omega), bw_trans (bw_trans (bw_trans (bw_trans K3 hnx) J2) J6) J7⟩)
end Go.Proofs.Ytempleochkohlaa
