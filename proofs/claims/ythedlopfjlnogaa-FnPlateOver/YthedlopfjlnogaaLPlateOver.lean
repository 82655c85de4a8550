/-
  OUR OWN TEXT. The law FnPlateOver, walked: whatever bytes come in, it answers true and writes nothing that was there.
-/
import Derived.Test.YthedlopfjlnogaaLuPlate
namespace Go.Proofs.Ythedlopfjlnogaa
open Go.RowKit Go.Sort

theorem luPlate_raw (f : P2 → P2) (sw : Bool) (base g n c : Nat) (l : List P2) (gh ch N : Nat) (hs : List LoopT) (hN : hs.length = N) (w : World) (hD : PlD base w ⟨g, n, c, l⟩ (.slice (some ⟨gh, 0, none⟩) hs.length ch) hs)
    (hf : ∀ t, t = (⟨g, n, c, l⟩ : LoopT) ∨ t ∈ hs → ∀ i, i < t.n → ∀ w, Calls Try.prog 80 #[.agg #[.int .i64 (ptAt t.l i).1, .int .i64 (ptAt t.l i).2], .bool sw] w fun e w' => e = .returned (.agg #[.int .i64 (f (ptAt t.l i)).1, .int .i64 (f (ptAt t.l i)).2]) ∧ Below w.heap.size w w') :
    Calls Try.prog 14 #[.agg #[.slice (some ⟨g, 0, none⟩) n c, .slice (some ⟨gh, 0, none⟩) N ch], .bool sw] w fun e w' => ∃ (ga na ca nh : Nat) (aha : Option Addr) (cha : Nat), e = .returned (.agg #[.slice (some ⟨ga, 0, none⟩) na ca, .slice aha nh cha]) ∧ Plt w' (some ⟨ga, 0, none⟩) na aha nh (l.map f) ((hs.map LoopT.l).map (List.map f)) ∧ Below w.heap.size w w' := by
  subst hN
  refine (luPlate_ok f sw base ⟨g, n, c, l⟩ gh ch hs w hD hf).mono ?_
  rintro e w7 ⟨⟨ga, na, ca, la⟩, hva, hsa, rfl, hNa, hla, hsl, Ja⟩
  obtain ⟨aha, cha, rfl, hPa⟩ := hNa.plt
  have ea : hs.map (fun t => t.l.map f) = (hs.map LoopT.l).map (List.map f) := by simp [Function.comp_def]
  rw [hla, hsl, ea] at hPa
  exact ⟨ga, na, ca, _, aha, cha, rfl, hPa, Ja⟩
set_option maxRecDepth 100000 in
set_option maxHeartbeats 2000000 in
theorem plateOver_walk (w : World) (a0 : Option Addr) (len0 cap0 : Nat) (z0 : List Int) (r0 : IsRow .u8 w a0 len0 cap0 z0) :
    Calls Try.prog 3 #[.slice a0 len0 cap0] w fun e w' => e = .returned (.bool true) ∧ Below w.heap.size w w' := by
  obtain ⟨i0, hi0, hz0, hz1, hz2⟩ := info_parts Try.infoPts
  have hmx : Try.prog.follows .mixedOrders = true := by kernel_rfl
  by_cases hl : 1048576 < len0
  · go_enter Try.func3, Try.ntmps3
    go_wp2
    go_ret
    exact ⟨rfl, bw_refl _⟩
  have hl0 : len0 ≤ 1048576 := by omega
  clear hl
  go_enter Try.func3, Try.ntmps3
  go_wp2_with fail
  refine (drawPlateOk_any w _ r0 (bw_refl _)).mono ?_
  rintro e w1 ⟨⟨g, n, c, l⟩, hv, hs, he, hD, ⟨hs4, hst⟩, J1⟩
  obtain rfl : e = .returned (.agg #[.slice (some ⟨g, 0, none⟩) n c, hv]) := he
  obtain ⟨gh, ch, rfl⟩ : ∃ gh ch, hv = .slice (some ⟨gh, 0, none⟩) hs.length ch := own_seat hD.2.2.1 hst
  obtain ⟨W, hW, BW, T⟩ := boxes1' w1 (.cells #[.slice (some ⟨g, 0, none⟩) n c, .slice (some ⟨gh, 0, none⟩) hs.length ch] 26)
  have hghw1 : gh < w1.heap.size := (hD.2.2.1.lt gh rfl).2
  replace hD := hD.below BW
  have K := bw_trans J1 BW
  go_upto_region 5 with fail
  rw [← hW]
  clear hW BW J1
  have hPl := hD.plt
  obtain ⟨t0, t1⟩ := blk_2 T
  go_wp2_with fail
  refine (plateOk_any _ _ n c hs.length ch l _ _ hPl).mono ?_
  rintro e w2 ⟨rfl, J⟩
  replace K := bw_trans K J
  replace T := keep J T
  replace hD := hD.below J
  replace hPl := hPl.below J
  clear J t0 t1
  obtain ⟨t0, t1⟩ := blk_2 T
  go_wp2_with fail
  refine (sPlateOk_any _ _ n c hs.length ch l _ _ hPl).mono ?_
  rintro e w3 ⟨rfl, J⟩
  replace K := bw_trans K J
  replace T := keep J T
  replace hD := hD.below J
  replace hPl := hPl.below J
  clear J t0 t1
  obtain ⟨t0, t1⟩ := blk_2 T
  cases hv : plV l (hs.map LoopT.l)
  case false =>
    go_wp2_with fail
    refine (sPlateOk_any _ _ n c hs.length ch l _ _ hPl).mono ?_
    rw [hv]
    rintro e w4 ⟨rfl, J⟩
    go_wp2_with fail
    go_ret
    exact ⟨rfl, bw_trans K J⟩
  have hcap : hs.length ≤ ch := by
    rcases hD.2.2.1.2 with ⟨e, _⟩ | ⟨g', c', cur, e, _, _, h1, _⟩
    · cases e
    · cases e; exact h1
  have hL := (plV_iff _ _).1 hv
  have hs2 : hs.length ≤ 2 := by have := plV_len hv; simpa using this
  have hmirF : plV (l.map mirP) ((hs.map LoopT.l).map (List.map mirP)) = true := plV_turn turns_mir hv
  have hswpF : plV (l.map swpP) ((hs.map LoopT.l).map (List.map swpP)) = true := plV_turn turns_swp hv
  have hbackF : plV l.reverse ((hs.map LoopT.l).reverse.map List.reverse) = true := plV_turn turns_rev (plV_back hv)
  have hokO : Hid (okV l = true) := hL.out
  have hokH : Hid (∀ t ∈ hs, okV t.l = true) := fun t ht => hL.ok _ (List.mem_map.2 ⟨t, ht, rfl⟩)
  have hFm : Hid (∀ t, t = (⟨g, n, c, l⟩ : LoopT) ∨ t ∈ hs → ∀ i, i < t.n → ∀ w, Calls Try.prog 80 #[.agg #[.int .i64 (ptAt t.l i).1, .int .i64 (ptAt t.l i).2], .bool false] w fun e w' => e = .returned (.agg #[.int .i64 (mirP (ptAt t.l i)).1, .int .i64 (mirP (ptAt t.l i)).2]) ∧ Below w.heap.size w w') := by
    have hnl : ∀ t ∈ hs, t.l.length = t.n := fun t ht => (hD.2.2.2 t ht).2.2.1
    have hno : l.length = n := hD.1.2.2.1
    intro t ht i hi w
    refine luPlace_f (ptAt t.l i) ?_ w
    rcases ht with rfl | ht
    · exact okV_pt hokO.out (by show i < l.length; rw [hno]; exact hi)
    · exact okV_pt (hokH.out t ht) (by rw [hnl t ht]; exact hi)
  have hFs : Hid (∀ t, t = (⟨g, n, c, l⟩ : LoopT) ∨ t ∈ hs → ∀ i, i < t.n → ∀ w, Calls Try.prog 80 #[.agg #[.int .i64 (ptAt t.l i).1, .int .i64 (ptAt t.l i).2], .bool true] w fun e w' => e = .returned (.agg #[.int .i64 (swpP (ptAt t.l i)).1, .int .i64 (swpP (ptAt t.l i)).2]) ∧ Below w.heap.size w w') := fun t _ i _ w => luPlace_t (ptAt t.l i) w
  obtain ⟨q0, q1⟩ := reg_2 T
  have hlessV : Hid (0 < hs.length → ∀ d os, Calls Try.prog 11 #[.agg #[.slice (some ⟨g, 0, none⟩) n c, .slice (some ⟨gh, 0, none⟩) (hs.length - 1) ch]] (grow (redrawn w3 d) os) fun e W' => e = .returned (.bool true) ∧ Below (grow (redrawn w3 d) os).heap.size (grow (redrawn w3 d) os) W') := fun hp d os => by
    rcases List.eq_nil_or_concat hs with h0 | ⟨hs', t, hhs⟩
    · rw [h0] at hp; simp at hp
    · rw [List.concat_eq_append] at hhs
      have hm : hs.map LoopT.l = hs'.map LoopT.l ++ [t.l] := by rw [hhs]; simp
      have hm2 : hs.length = hs'.length + 1 := by rw [hhs]; simp
      have hm3 : hs.length - 1 = hs'.length := by omega
      have h1 := hPl
      rw [hm, hm2] at h1
      have h2 := (h1.less).below (below_regrown w3 d os)
      have h3 : plV l (hs'.map LoopT.l) = true := by have := plV_less hv; rwa [hm, List.dropLast_concat] at this
      rw [hm3]
      have h4 := plateOk_any (some ⟨g, 0, none⟩) (some ⟨gh, 0, none⟩) n c hs'.length ch l _ _ h2
      rwa [h3] at h4
  obtain ⟨N, hNN⟩ : ∃ N, hs.length = N := ⟨_, rfl⟩
  have HN : Hid (hs.length = N) := hNN
  rw [hNN] at T t1 q1 hcap hs2 hlessV
  rw [hNN]
  clear hNN hPl
  by_cases h0 : N = 0
  · have h0' : ¬ ((0 : Int) < (N : Int)) := by omega
    have h0n : decide (0 < N) = false := by simp; omega
    have h0h : Hid (N = 0) := h0
    clear h0
    go_wp2_with fail
    refine wp_region_quiet_below (by kernel_rfl) (by kernel_rfl) ?_
    repeat (first | go_big_quiet_step (fail))
    refine wpQuiet_nil ?_
    intro _ hw'
    obtain ⟨⟨dq, osq⟩, hw''⟩ := hw'
    subst hw''
    have J := below_regrown w3 dq osq
    generalize grow (redrawn w3 dq) osq = w4 at J ⊢
    have T4 := keep J T
    have K4 := bw_trans K J
    have hD4 := hD.below J
    clear t0 t1 q0 q1
    obtain ⟨t0, t1⟩ := blk_2 T4
    obtain ⟨o1, o2, o3, o4, o5, o6, o7⟩ := hD4.1
    have o1' : 3 ≤ n := o1
    have o2' : n ≤ 8 := o2
    have o3' : l.length = n := o3
    go_wp2_with fail
    refine (luBackward_ok g n c l _ o7 o3 (by omega) (by omega)).mono ?_
    have hln : l.reverse.length = n := by simp [o3']
    rintro e w5 ⟨g1, c1, rfl, hb1, J5⟩
    rw [hln] at hb1
    rw [hln]
    have K5 := bw_trans K4 J5
    have T5 := keep J5 T4
    have hD5 := hD4.below J5
    have zT := blk_lt T5
    have zg1 := hb1.lt
    have zw13 : w1.heap.size < w3.heap.size := blk_lt T
    have Bq : Below w5.heap.size w5 (w5.alloc (.cells #[.slice (some ⟨g1, 0, none⟩) n c1, .slice none 0 0] 26)) := (by repeat (first | exact bw_refl _ | assumption | apply bw_drewN | apply bw_drew | apply bw_alloc | refine bw_set ?_ (by simp) _))
    have Lp : Lies w5.heap.size #[.slice (some ⟨g1, 0, none⟩) n c1, .slice none 0 0] 26 (w5.alloc (.cells #[.slice (some ⟨g1, 0, none⟩) n c1, .slice none 0 0] 26)) := Lies.new w5 _ _
    have hN0 : PlN w5.heap.size (w5.alloc (.cells #[.slice (some ⟨g1, 0, none⟩) n c1, .slice none 0 0] 26)) ⟨g1, n, c1, l.reverse⟩ (.slice none 0 0) [] := ⟨LoopT.in.below ⟨o1', o2', hln, hb1⟩ Bq, ⟨rfl, .inl ⟨rfl, rfl⟩⟩, fun t ht => by simp at ht⟩
    clear J J5 o7 t0 t1
    go_wp2_with fail
    go_loopw [7] (fun i wr => ∃ (k : Nat) (hv : Value) (hs' : List LoopT), k ≤ N ∧ i = .int .i64 ((N : Int) - 1 - k) ∧ Lies w5.heap.size #[.slice (some ⟨g1, 0, none⟩) n c1, hv] 26 wr ∧ PlN w5.heap.size wr ⟨g1, n, c1, l.reverse⟩ hv hs' ∧ hs'.length = k ∧ hs'.map LoopT.l = (hs.reverse.take k).map (fun t => t.l.reverse) ∧ Below w5.heap.size w5 wr) (fun i _ => (intOf i + 1).toNat)
    case atStart => exact ⟨0, _, [], Nat.zero_le _, by simp <;> omega, Lp, hN0, rfl, rfl, Bq⟩
    case round =>
      obtain ⟨k, hv', hs', hk, rfl, Lo, hN, hkl, hmap, hnx⟩ := hrel
      have T2 := keep hnx T5
      obtain ⟨t0, t1⟩ := blk_2 T2
      have K2 := bw_trans K5 hnx
      by_cases hlt : k < N
      case neg =>
        obtain rfl : N = k := by omega
        rw [List.take_of_length_le (by rw [List.length_reverse, HN.out]; exact Nat.le_refl _)] at hmap
        have hneg : ¬ (0 ≤ (N : Int) - 1 - (N : Int)) := by omega
        have hneg2 : (N : Int) - 1 - (N : Int) < 0 := by omega
        have hD6 := hD5.below hnx
        go_wp2_with fail
        refine (luPlate_raw mirP false _ g n c l gh ch N hs HN.out _ hD6 hFm.out).mono ?_
        rintro e w7 ⟨ga, na, ca, nha, aha, cha, rfl, hPa, Ja⟩
        have K7 := bw_trans K2 Ja
        go_wp2_with fail
        refine (plateOk_any _ _ na ca _ cha _ _ _ hPa).mono ?_
        rw [hmirF]
        rintro e w8 ⟨rfl, Jb⟩
        have Jab := bw_trans Ja Jb
        have T8 := keep Jab T2
        have hD8 := hD6.below Jab
        clear t0 t1
        obtain ⟨t0, t1⟩ := blk_2 T8
        go_wp2_with fail
        refine (luPlate_raw swpP true _ g n c l gh ch N hs HN.out _ hD8 hFs.out).mono ?_
        rintro e w9 ⟨gb, nb, cb, nhb, ahb, chb, rfl, hPb, Jc⟩
        go_wp2_with fail
        refine (plateOk_any _ _ nb cb _ chb _ _ _ hPb).mono ?_
        rw [hswpF]
        rintro e w10 ⟨rfl, Jd⟩
        have Jbd := bw_trans Jab (bw_trans Jc Jd)
        have L10 := Lo.below Jbd
        have hN10 := hN.below Jbd
        have K10 := bw_trans K2 Jbd
        obtain ⟨ahc, chc, rfl, hPc⟩ := hN10.plt
        rw [hmap, hkl] at hPc
        have ec : hs.reverse.map (fun t => t.l.reverse) = (hs.map LoopT.l).reverse.map List.reverse := by rw [← List.map_reverse, List.map_map]; rfl
        obtain ⟨d0, d1, f0, f1⟩ := lies2 L10
        go_wp2_with fail
        refine (plateOk_any _ _ n c1 _ chc _ _ _ hPc).mono ?_
        rw [ec, hbackF]
        rintro e w11 ⟨rfl, Je⟩
        go_wp2_with fail
        go_ret
        exact ⟨rfl, bw_trans K10 Je⟩
      case pos => exact absurd hlt (by have := h0h.out; omega)
  · have h0' : (0 : Int) < (N : Int) := by omega
    have h0n : decide (0 < N) = true := by simp; omega
    have hX := hlessV.out (by omega)
    obtain ⟨mm, hmm⟩ : ∃ mm, N - 1 = mm := ⟨_, rfl⟩
    have hmi0 : (N : Int) - 1 = (mm : Int) := by omega
    have sm0 : (0 : Int) ≤ (mm : Int) := Int.natCast_nonneg _
    have sm1 : (mm : Int) ≤ (ch : Int) := by omega
    have sm2 : (ch = 0) = False := by simp; omega
    rw [hmm] at hX
    have HX : Hid (∀ d os, Calls Try.prog 11 #[.agg #[.slice (some ⟨g, 0, none⟩) n c, .slice (some ⟨gh, 0, none⟩) mm ch]] (grow (redrawn w3 d) os) fun e W' => e = .returned (.bool true) ∧ Below (grow (redrawn w3 d) os).heap.size (grow (redrawn w3 d) os) W') := hX
    clear hX
    go_wp2_with fail
    refine wp_region_quiet_below (by kernel_rfl) (by kernel_rfl) ?_
    repeat (first | go_big_quiet_step (first | (go_at_call 11; with_reducible exact Calls.regrown_of (HX.out _ _))))
    refine wpQuiet_nil ?_
    intro _ hw'
    obtain ⟨⟨dq, osq⟩, hw''⟩ := hw'
    subst hw''
    have J := below_regrown w3 dq osq
    generalize grow (redrawn w3 dq) osq = w4 at J ⊢
    have T4 := keep J T
    have K4 := bw_trans K J
    have hD4 := hD.below J
    clear t0 t1 q0 q1
    obtain ⟨t0, t1⟩ := blk_2 T4
    obtain ⟨o1, o2, o3, o4, o5, o6, o7⟩ := hD4.1
    have o1' : 3 ≤ n := o1
    have o2' : n ≤ 8 := o2
    have o3' : l.length = n := o3
    go_wp2_with fail
    refine (luBackward_ok g n c l _ o7 o3 (by omega) (by omega)).mono ?_
    have hln : l.reverse.length = n := by simp [o3']
    rintro e w5 ⟨g1, c1, rfl, hb1, J5⟩
    rw [hln] at hb1
    rw [hln]
    have K5 := bw_trans K4 J5
    have T5 := keep J5 T4
    have hD5 := hD4.below J5
    have zT := blk_lt T5
    have zg1 := hb1.lt
    have zw13 : w1.heap.size < w3.heap.size := blk_lt T
    have Bq : Below w5.heap.size w5 (w5.alloc (.cells #[.slice (some ⟨g1, 0, none⟩) n c1, .slice none 0 0] 26)) := (by repeat (first | exact bw_refl _ | assumption | apply bw_drewN | apply bw_drew | apply bw_alloc | refine bw_set ?_ (by simp) _))
    have Lp : Lies w5.heap.size #[.slice (some ⟨g1, 0, none⟩) n c1, .slice none 0 0] 26 (w5.alloc (.cells #[.slice (some ⟨g1, 0, none⟩) n c1, .slice none 0 0] 26)) := Lies.new w5 _ _
    have hN0 : PlN w5.heap.size (w5.alloc (.cells #[.slice (some ⟨g1, 0, none⟩) n c1, .slice none 0 0] 26)) ⟨g1, n, c1, l.reverse⟩ (.slice none 0 0) [] := ⟨LoopT.in.below ⟨o1', o2', hln, hb1⟩ Bq, ⟨rfl, .inl ⟨rfl, rfl⟩⟩, fun t ht => by simp at ht⟩
    clear J J5 o7 t0 t1
    go_wp2_with fail
    go_loopw [7] (fun i wr => ∃ (k : Nat) (hv : Value) (hs' : List LoopT), k ≤ N ∧ i = .int .i64 ((N : Int) - 1 - k) ∧ Lies w5.heap.size #[.slice (some ⟨g1, 0, none⟩) n c1, hv] 26 wr ∧ PlN w5.heap.size wr ⟨g1, n, c1, l.reverse⟩ hv hs' ∧ hs'.length = k ∧ hs'.map LoopT.l = (hs.reverse.take k).map (fun t => t.l.reverse) ∧ Below w5.heap.size w5 wr) (fun i _ => (intOf i + 1).toNat)
    case atStart => exact ⟨0, _, [], Nat.zero_le _, by simp <;> omega, Lp, hN0, rfl, rfl, Bq⟩
    case round =>
      obtain ⟨k, hv', hs', hk, rfl, Lo, hN, hkl, hmap, hnx⟩ := hrel
      have T2 := keep hnx T5
      obtain ⟨t0, t1⟩ := blk_2 T2
      have K2 := bw_trans K5 hnx
      by_cases hlt : k < N
      case neg =>
        obtain rfl : N = k := by omega
        rw [List.take_of_length_le (by rw [List.length_reverse, HN.out]; exact Nat.le_refl _)] at hmap
        have hneg : ¬ (0 ≤ (N : Int) - 1 - (N : Int)) := by omega
        have hneg2 : (N : Int) - 1 - (N : Int) < 0 := by omega
        have hD6 := hD5.below hnx
        go_wp2_with fail
        refine (luPlate_raw mirP false _ g n c l gh ch N hs HN.out _ hD6 hFm.out).mono ?_
        rintro e w7 ⟨ga, na, ca, nha, aha, cha, rfl, hPa, Ja⟩
        have K7 := bw_trans K2 Ja
        go_wp2_with fail
        refine (plateOk_any _ _ na ca _ cha _ _ _ hPa).mono ?_
        rw [hmirF]
        rintro e w8 ⟨rfl, Jb⟩
        have Jab := bw_trans Ja Jb
        have T8 := keep Jab T2
        have hD8 := hD6.below Jab
        clear t0 t1
        obtain ⟨t0, t1⟩ := blk_2 T8
        go_wp2_with fail
        refine (luPlate_raw swpP true _ g n c l gh ch N hs HN.out _ hD8 hFs.out).mono ?_
        rintro e w9 ⟨gb, nb, cb, nhb, ahb, chb, rfl, hPb, Jc⟩
        go_wp2_with fail
        refine (plateOk_any _ _ nb cb _ chb _ _ _ hPb).mono ?_
        rw [hswpF]
        rintro e w10 ⟨rfl, Jd⟩
        have Jbd := bw_trans Jab (bw_trans Jc Jd)
        have L10 := Lo.below Jbd
        have hN10 := hN.below Jbd
        have K10 := bw_trans K2 Jbd
        obtain ⟨ahc, chc, rfl, hPc⟩ := hN10.plt
        rw [hmap, hkl] at hPc
        have ec : hs.reverse.map (fun t => t.l.reverse) = (hs.map LoopT.l).reverse.map List.reverse := by rw [← List.map_reverse, List.map_map]; rfl
        obtain ⟨d0, d1, f0, f1⟩ := lies2 L10
        go_wp2_with fail
        refine (plateOk_any _ _ n c1 _ chc _ _ _ hPc).mono ?_
        rw [ec, hbackF]
        rintro e w11 ⟨rfl, Je⟩
        go_wp2_with fail
        go_ret
        exact ⟨rfl, bw_trans K10 Je⟩
      case pos =>
        obtain ⟨m, hm⟩ : ∃ m : Nat, N - 1 - k = m := ⟨_, rfl⟩
        have hmi : (N : Int) - 1 - k = (m : Int) := by omega
        have hmn : m < N := by omega
        rw [hmi]
        obtain ⟨gt, nt, ct, lt, ht1, ht2, htc, nt3, nt8, htl, htb⟩ := (hD5.below hnx).hole (by rw [HN.out]; exact hmn)
        have i0' : (0 : Int) ≤ (m : Int) := Int.natCast_nonneg _
        have i1' : (m : Int) < (N : Int) := by omega
        have m4 : (m : Int) ≤ 4 := by omega
        have qm : IntKind.i64.wrap ((m : Int) - 1) = (m : Int) - 1 := wrap_small (by omega) (by omega)
        have hcall := luBackward_ok gt nt ct lt wr.drew (htb.below (bw_drew (bw_refl _))) htl (by omega) (by omega)
        have hkk : hs'.length ≤ 4 := by rw [hkl]; omega
        obtain ⟨d0, d1, f0, f1⟩ := lies2 Lo
        have hmax : hs'.length + 1 ≤ maxLen := by simp [maxLen]; omega
        have hlt3 : lt.reverse.length = nt := by simp [htl]
        have zPB : w1.heap.size < wr.heap.size := blk_lt T2
        have zGH : gh < wr.heap.size := by omega
        have zGH5 : gh < w5.heap.size := by omega
        have zw1 := hnx.size
        have hmr : hs.reverse[k]? = some (⟨gt, nt, ct, lt⟩ : LoopT) := by rw [List.getElem?_reverse (by rw [HN.out]; exact hlt), HN.out, hm]; exact ht1
        have Hkl : Hid (hs'.length = k) := hkl
        clear t0 hkl
        go_wp2_with fail
        refine wp_region_held (S := (fun w' : World => w'.cell? ⟨w1.heap.size, 1, none⟩ = some (.slice (some ⟨gh, 0, none⟩) N ch) ∧ w'.cell? ⟨gh, m, none⟩ = some (.slice (some ⟨gt, 0, none⟩) nt ct))) hmx ?_
        have hS0 : (fun w' : World => w'.cell? ⟨w1.heap.size, 1, none⟩ = some (.slice (some ⟨gh, 0, none⟩) N ch) ∧ w'.cell? ⟨gh, m, none⟩ = some (.slice (some ⟨gt, 0, none⟩) nt ct)) wr.drew := ⟨t1, htc⟩
        refine wpAnyH_take (i := 0) (v := .pointer (some ⟨w5.heap.size, 1, none⟩)) rfl (by kernel_rfl) (by kernel_rfl) (by kernel_rfl) (fun _ _ _ h => h) (Or.inl ⟨by rfl, by rintro w' ⟨s1, s2⟩; go_simp⟩) hS0 ?_
        refine wpAnyH_take (i := 2) (v := .pointer (some ⟨w1.heap.size, 1, none⟩)) rfl (by kernel_rfl) (by kernel_rfl) (by kernel_rfl) (fun _ _ _ h => h) (Or.inl ⟨by rfl, by rintro w' ⟨s1, s2⟩; go_simp⟩) hS0 ?_
        refine wpAnyH_take (i := 4) (v := .int .i64 (m : Int)) rfl (by kernel_rfl) (by kernel_rfl) (by kernel_rfl) (fun _ _ _ h => h) (Or.inl ⟨by rfl, by rintro w' ⟨s1, s2⟩; go_simp⟩) hS0 ?_
        refine wpAnyH_take (i := 3) (v := .slice (some ⟨gh, 0, none⟩) N ch) rfl (by kernel_rfl) (by kernel_rfl) (by kernel_rfl) (fun _ _ _ h => h) (Or.inl ⟨by rfl, by rintro w' ⟨s1, s2⟩; go_simp⟩) hS0 ?_
        refine wpAnyH_take (i := 5) (v := .pointer (some ⟨gh, m, none⟩)) rfl (by kernel_rfl) (by kernel_rfl) (by kernel_rfl) (fun _ _ _ h => h) (Or.inl ⟨by rfl, by rintro w' ⟨s1, s2⟩; go_simp⟩) hS0 ?_
        refine wpAnyH_take (i := 6) (v := .slice (some ⟨gt, 0, none⟩) nt ct) rfl (by kernel_rfl) (by kernel_rfl) (by kernel_rfl) (fun _ _ _ h => h) (Or.inl ⟨by rfl, by rintro w' ⟨s1, s2⟩; go_simp⟩) hS0 ?_
        refine wpAnyH_all (rs := [1, 7]) (by kernel_rfl) (by simp) ?_
        intro i hi
        have hi' : i = 1 ∨ i = 7 := by simpa using hi
        clear hi
        rcases hi' with rfl | rfl
        · skip
          refine YieldsIf.wpOp (S := fun w' => w' = wr.drew) (v := hv') rfl (Or.inl ⟨by rfl, by rintro w' rfl; go_simp⟩) rfl ⟨hS0, ?_⟩
          refine wpAnyH_all (rs := [7]) (by kernel_rfl) (by simp) ?_
          intro i hi
          obtain rfl : i = 7 := by simpa using hi
          refine wpOp_now rfl (by rfl) ?_
          go_simp
          refine hcall.mono ?_
          rintro e w6 ⟨g3, c3, rfl, hb3, J3⟩
          obtain ⟨n3, l3, hn3, hl3, hin3⟩ : ∃ n3 l3, lt.reverse.length = n3 ∧ lt.reverse = l3 ∧ LoopT.in w6 ⟨g3, n3, c3, l3⟩ := ⟨nt, lt.reverse, hlt3, rfl, nt3, nt8, hlt3, by rw [hlt3] at hb3; exact hb3⟩
          rw [hn3]
          have PB3 := (show Lies w1.heap.size #[.slice (some ⟨g, 0, none⟩) n c, .slice (some ⟨gh, 0, none⟩) N ch] 26 wr.drew from T2).below J3
          have Lo3 := (show Lies w5.heap.size #[.slice (some ⟨g1, 0, none⟩) n c1, hv'] 26 wr.drew from Lo).below J3
          have hN3 := (show PlN w5.heap.size wr.drew ⟨g1, n, c1, l.reverse⟩ hv' hs' from hN.below (bw_drew (bw_refl _))).below J3
          have hS3 : (fun w' : World => w'.cell? ⟨w1.heap.size, 1, none⟩ = some (.slice (some ⟨gh, 0, none⟩) N ch) ∧ w'.cell? ⟨gh, m, none⟩ = some (.slice (some ⟨gt, 0, none⟩) nt ct)) w6 := ⟨(J3.cell (p := ⟨w1.heap.size, 1, none⟩) zPB).trans t1, (J3.cell (p := ⟨gh, m, none⟩) zGH).trans htc⟩
          obtain ⟨d03, d13, f03, f13⟩ := lies2 Lo3
          have zo3 := Lo3.lt
          have zwr3 := J3.size
          refine ⟨hS3, ?_⟩
          refine wpAnyH_all (rs := [8]) (by kernel_rfl) (by simp) ?_
          intro i hi
          obtain rfl : i = 8 := by simpa using hi
          have B34 : Below w6.heap.size w6 (w6.alloc (.cells #[.slice (some ⟨g3, 0, none⟩) n3 c3] 23)) := (by repeat (first | exact bw_refl _ | assumption | apply bw_drewN | apply bw_drew | apply bw_alloc | refine bw_set ?_ (by simp) _))
          have hS4 : (fun w' : World => w'.cell? ⟨w1.heap.size, 1, none⟩ = some (.slice (some ⟨gh, 0, none⟩) N ch) ∧ w'.cell? ⟨gh, m, none⟩ = some (.slice (some ⟨gt, 0, none⟩) nt ct)) (w6.alloc (.cells #[.slice (some ⟨g3, 0, none⟩) n3 c3] 23)) := ⟨(B34.cell (p := ⟨w1.heap.size, 1, none⟩) (show w1.heap.size < w6.heap.size by omega)).trans hS3.1, (B34.cell (p := ⟨gh, m, none⟩) (show gh < w6.heap.size by omega)).trans hS3.2⟩
          refine wpOp_now rfl (by rfl) ?_
          go_simp
          refine wpAnyH_all (rs := [9]) (by kernel_rfl) (by simp) ?_
          intro i hi
          obtain rfl : i = 9 := by simpa using hi
          refine wpOp_now rfl (by rfl) ?_
          refine wp_append_lies _ _ _ _ (by rfl) w5.heap.size 23 i0 _ 1 24 Try.underlying24 hi0 hz0 hz1 hz2 rfl (by omega) _ hs'.length _ (by rfl) (hN3.2.1.alloc _) ⟨w6.heap.size, 0, none⟩ 1 1 [.slice (some ⟨g3, 0, none⟩) n3 c3] (by rfl) (by rfl) (World.news_of_block (cs := #[.slice (some ⟨g3, 0, none⟩) n3 c3]) (t := 23) (fr := (0, 0)) (heap_alloc_new w6 _)) (by simp [Value.oneCell']) (by omega) hmax (by omega) (by simp; omega) (w6.heap.size + 1) (by simp) ?_
          intro gg cg y5 hown5 hgr5 hat5 hlt5
          have Lo5 := lies_grown (Lo3.alloc _) hgr5 (fun e => own_ne_box hN3.2.1 Lo3 e.symm)
          have hS5 : (fun w' : World => w'.cell? ⟨w1.heap.size, 1, none⟩ = some (.slice (some ⟨gh, 0, none⟩) N ch) ∧ w'.cell? ⟨gh, m, none⟩ = some (.slice (some ⟨gt, 0, none⟩) nt ct)) y5 := ⟨(World.cell?_of_block (a := ⟨w1.heap.size, 1, none⟩) (hgr5.block w1.heap.size (by simp; omega) (fun e => own_ne_box hN3.2.1 PB3 e.symm))).trans hS4.1, (World.cell?_of_block (a := ⟨gh, m, none⟩) (hgr5.block gh (by simp; omega) (fun e => by have := (hN3.2.1.lt _ e.symm).1; omega))).trans hS4.2⟩
          refine ⟨hS5, ?_⟩
          simp only [Act.put, List.setIfInBounds_toArray]
          refine wpAnyH_take (i := 10) (v := .pointer (some ⟨w5.heap.size, 1, none⟩)) rfl (by kernel_rfl) (by kernel_rfl) (by kernel_rfl) (fun _ _ _ h => h) (Or.inl ⟨by rfl, by rintro w' ⟨s1, s2⟩; go_simp⟩) hS5 ?_
          refine wpAnyH_all (rs := [11]) (by kernel_rfl) (by simp) ?_
          intro i hi
          obtain rfl : i = 11 := by simpa using hi
          obtain ⟨d05, d15, f05, f15⟩ := lies2 Lo5
          have O5 : Only w5.heap.size y5 (y5.setCell ⟨w5.heap.size, 1, none⟩ (.slice (some ⟨gg, 0, none⟩) (hs'.length + 1) cg)) := (Only.refl (w5.heap.size) y5).set (p := ⟨w5.heap.size, 1, none⟩) (.inl rfl) _
          have hggn : gg ≠ w5.heap.size := fun e => own_ne_box hown5 Lo5 (by rw [← e]; rfl)
          have hS6 : (fun w' : World => w'.cell? ⟨w1.heap.size, 1, none⟩ = some (.slice (some ⟨gh, 0, none⟩) N ch) ∧ w'.cell? ⟨gh, m, none⟩ = some (.slice (some ⟨gt, 0, none⟩) nt ct)) (y5.setCell ⟨w5.heap.size, 1, none⟩ (.slice (some ⟨gg, 0, none⟩) (hs'.length + 1) cg)) := ⟨(World.cell?_of_block (a := ⟨w1.heap.size, 1, none⟩) (O5.block w1.heap.size (by omega) (by have := hgr5.size; simp at this; omega))).trans hS5.1, (World.cell?_of_block (a := ⟨gh, m, none⟩) (O5.block gh (by omega) (by have := hgr5.size; simp at this; omega))).trans hS5.2⟩
          refine wpOp_now rfl (by rfl) ?_
          go_simp
          refine wpAnyH_done (by kernel_rfl) ?_ _
          simp only [Exit.then, Exit.inBlock]
          have keep5 : ∀ t : LoopT, t.in w6 → t.in (y5.setCell ⟨w5.heap.size, 1, none⟩ (.slice (some ⟨gg, 0, none⟩) (hs'.length + 1) cg)) := fun t ht => by
            have h5 := (ht.below B34).grown hgr5 (ht.ne_own hN3.2.1)
            exact h5.only O5 (h5.ne_box Lo5)
          have hr5 := own_only' hown5 O5 (fun e => hggn (Option.some.inj e))
          have hN4 : PlN w5.heap.size (y5.setCell ⟨w5.heap.size, 1, none⟩ (.slice (some ⟨gg, 0, none⟩) (hs'.length + 1) cg)) ⟨g1, n, c1, l.reverse⟩ (.slice (some ⟨gg, 0, none⟩) (hs'.length + 1) cg) (hs' ++ [(⟨g3, n3, c3, l3⟩ : LoopT)]) := by
            refine ⟨keep5 _ hN3.1, by simpa [LoopT.v] using hr5, fun t ht => ?_⟩
            rcases List.mem_append.1 ht with h | h
            · exact keep5 t (hN3.2.2 t h)
            · obtain rfl : t = ⟨g3, n3, c3, l3⟩ := by simpa using h
              exact keep5 _ hin3
          have L4 := lies_set1 (z := .slice (some ⟨gg, 0, none⟩) (hs'.length + 1) cg) Lo5
          have J5 := (((bw_trans hnx.drew J3).alloc (by omega) (.cells #[.slice (some ⟨g3, 0, none⟩) n3 c3] 23)).grown hgr5 (by simp; omega) (fun j e => by have := (hN3.2.1.lt j e).1; omega)).setCell (p := ⟨w5.heap.size, 1, none⟩) (Nat.le_refl _) (.slice (some ⟨gg, 0, none⟩) (hs'.length + 1) cg)
          clear hown5 hgr5 hat5 hlt5 keep5 hr5 O5 hN3 Lo3 Lo5 d03 d13 f03 f13 d05 d15 f05 f15 B34 hS3 hS4 hS5 hS6
          generalize y5.setCell ⟨w5.heap.size, 1, none⟩ (.slice (some ⟨gg, 0, none⟩) (hs'.length + 1) cg) = x4 at *
          obtain ⟨d0, d1, f0, f1⟩ := lies2 L4
          go_wp2_with fail
          go_roundw
          case rel =>
            refine ⟨k + 1, _, hs' ++ [(⟨g3, n3, c3, l3⟩ : LoopT)], by omega, by have e : (m : Int) - 1 = (N : Int) - 1 - ((k + 1 : Nat) : Int) := (by omega); rw [e], L4, hN4, by simp [Hkl.out], ?_, J5⟩
            rw [List.map_append, hmap, List.take_add_one, hmr]
            simp [← hl3]
          case measure => simp [intOf]
        · skip
          refine wpOp_now rfl (by rfl) ?_
          go_simp
          refine hcall.mono ?_
          rintro e w6 ⟨g3, c3, rfl, hb3, J3⟩
          obtain ⟨n3, l3, hn3, hl3, hin3⟩ : ∃ n3 l3, lt.reverse.length = n3 ∧ lt.reverse = l3 ∧ LoopT.in w6 ⟨g3, n3, c3, l3⟩ := ⟨nt, lt.reverse, hlt3, rfl, nt3, nt8, hlt3, by rw [hlt3] at hb3; exact hb3⟩
          rw [hn3]
          have PB3 := (show Lies w1.heap.size #[.slice (some ⟨g, 0, none⟩) n c, .slice (some ⟨gh, 0, none⟩) N ch] 26 wr.drew from T2).below J3
          have Lo3 := (show Lies w5.heap.size #[.slice (some ⟨g1, 0, none⟩) n c1, hv'] 26 wr.drew from Lo).below J3
          have hN3 := (show PlN w5.heap.size wr.drew ⟨g1, n, c1, l.reverse⟩ hv' hs' from hN.below (bw_drew (bw_refl _))).below J3
          have hS3 : (fun w' : World => w'.cell? ⟨w1.heap.size, 1, none⟩ = some (.slice (some ⟨gh, 0, none⟩) N ch) ∧ w'.cell? ⟨gh, m, none⟩ = some (.slice (some ⟨gt, 0, none⟩) nt ct)) w6 := ⟨(J3.cell (p := ⟨w1.heap.size, 1, none⟩) zPB).trans t1, (J3.cell (p := ⟨gh, m, none⟩) zGH).trans htc⟩
          obtain ⟨d03, d13, f03, f13⟩ := lies2 Lo3
          have zo3 := Lo3.lt
          have zwr3 := J3.size
          refine ⟨hS3, ?_⟩
          refine wpAnyH_all (rs := [1, 8]) (by kernel_rfl) (by simp) ?_
          intro i hi
          have hi' : i = 1 ∨ i = 8 := by simpa using hi
          clear hi
          rcases hi' with rfl | rfl
          · skip
            refine YieldsIf.wpOp (S := fun w' => w' = w6) (v := hv') rfl (Or.inl ⟨by rfl, by rintro w' rfl; go_simp⟩) rfl ⟨hS3, ?_⟩
            refine wpAnyH_all (rs := [8]) (by kernel_rfl) (by simp) ?_
            intro i hi
            obtain rfl : i = 8 := by simpa using hi
            have B34 : Below w6.heap.size w6 (w6.alloc (.cells #[.slice (some ⟨g3, 0, none⟩) n3 c3] 23)) := (by repeat (first | exact bw_refl _ | assumption | apply bw_drewN | apply bw_drew | apply bw_alloc | refine bw_set ?_ (by simp) _))
            have hS4 : (fun w' : World => w'.cell? ⟨w1.heap.size, 1, none⟩ = some (.slice (some ⟨gh, 0, none⟩) N ch) ∧ w'.cell? ⟨gh, m, none⟩ = some (.slice (some ⟨gt, 0, none⟩) nt ct)) (w6.alloc (.cells #[.slice (some ⟨g3, 0, none⟩) n3 c3] 23)) := ⟨(B34.cell (p := ⟨w1.heap.size, 1, none⟩) (show w1.heap.size < w6.heap.size by omega)).trans hS3.1, (B34.cell (p := ⟨gh, m, none⟩) (show gh < w6.heap.size by omega)).trans hS3.2⟩
            refine wpOp_now rfl (by rfl) ?_
            go_simp
            refine wpAnyH_all (rs := [9]) (by kernel_rfl) (by simp) ?_
            intro i hi
            obtain rfl : i = 9 := by simpa using hi
            refine wpOp_now rfl (by rfl) ?_
            refine wp_append_lies _ _ _ _ (by rfl) w5.heap.size 23 i0 _ 1 24 Try.underlying24 hi0 hz0 hz1 hz2 rfl (by omega) _ hs'.length _ (by rfl) (hN3.2.1.alloc _) ⟨w6.heap.size, 0, none⟩ 1 1 [.slice (some ⟨g3, 0, none⟩) n3 c3] (by rfl) (by rfl) (World.news_of_block (cs := #[.slice (some ⟨g3, 0, none⟩) n3 c3]) (t := 23) (fr := (0, 0)) (heap_alloc_new w6 _)) (by simp [Value.oneCell']) (by omega) hmax (by omega) (by simp; omega) (w6.heap.size + 1) (by simp) ?_
            intro gg cg y5 hown5 hgr5 hat5 hlt5
            have Lo5 := lies_grown (Lo3.alloc _) hgr5 (fun e => own_ne_box hN3.2.1 Lo3 e.symm)
            have hS5 : (fun w' : World => w'.cell? ⟨w1.heap.size, 1, none⟩ = some (.slice (some ⟨gh, 0, none⟩) N ch) ∧ w'.cell? ⟨gh, m, none⟩ = some (.slice (some ⟨gt, 0, none⟩) nt ct)) y5 := ⟨(World.cell?_of_block (a := ⟨w1.heap.size, 1, none⟩) (hgr5.block w1.heap.size (by simp; omega) (fun e => own_ne_box hN3.2.1 PB3 e.symm))).trans hS4.1, (World.cell?_of_block (a := ⟨gh, m, none⟩) (hgr5.block gh (by simp; omega) (fun e => by have := (hN3.2.1.lt _ e.symm).1; omega))).trans hS4.2⟩
            refine ⟨hS5, ?_⟩
            simp only [Act.put, List.setIfInBounds_toArray]
            refine wpAnyH_take (i := 10) (v := .pointer (some ⟨w5.heap.size, 1, none⟩)) rfl (by kernel_rfl) (by kernel_rfl) (by kernel_rfl) (fun _ _ _ h => h) (Or.inl ⟨by rfl, by rintro w' ⟨s1, s2⟩; go_simp⟩) hS5 ?_
            refine wpAnyH_all (rs := [11]) (by kernel_rfl) (by simp) ?_
            intro i hi
            obtain rfl : i = 11 := by simpa using hi
            obtain ⟨d05, d15, f05, f15⟩ := lies2 Lo5
            have O5 : Only w5.heap.size y5 (y5.setCell ⟨w5.heap.size, 1, none⟩ (.slice (some ⟨gg, 0, none⟩) (hs'.length + 1) cg)) := (Only.refl (w5.heap.size) y5).set (p := ⟨w5.heap.size, 1, none⟩) (.inl rfl) _
            have hggn : gg ≠ w5.heap.size := fun e => own_ne_box hown5 Lo5 (by rw [← e]; rfl)
            have hS6 : (fun w' : World => w'.cell? ⟨w1.heap.size, 1, none⟩ = some (.slice (some ⟨gh, 0, none⟩) N ch) ∧ w'.cell? ⟨gh, m, none⟩ = some (.slice (some ⟨gt, 0, none⟩) nt ct)) (y5.setCell ⟨w5.heap.size, 1, none⟩ (.slice (some ⟨gg, 0, none⟩) (hs'.length + 1) cg)) := ⟨(World.cell?_of_block (a := ⟨w1.heap.size, 1, none⟩) (O5.block w1.heap.size (by omega) (by have := hgr5.size; simp at this; omega))).trans hS5.1, (World.cell?_of_block (a := ⟨gh, m, none⟩) (O5.block gh (by omega) (by have := hgr5.size; simp at this; omega))).trans hS5.2⟩
            refine wpOp_now rfl (by rfl) ?_
            go_simp
            refine wpAnyH_done (by kernel_rfl) ?_ _
            simp only [Exit.then, Exit.inBlock]
            have keep5 : ∀ t : LoopT, t.in w6 → t.in (y5.setCell ⟨w5.heap.size, 1, none⟩ (.slice (some ⟨gg, 0, none⟩) (hs'.length + 1) cg)) := fun t ht => by
              have h5 := (ht.below B34).grown hgr5 (ht.ne_own hN3.2.1)
              exact h5.only O5 (h5.ne_box Lo5)
            have hr5 := own_only' hown5 O5 (fun e => hggn (Option.some.inj e))
            have hN4 : PlN w5.heap.size (y5.setCell ⟨w5.heap.size, 1, none⟩ (.slice (some ⟨gg, 0, none⟩) (hs'.length + 1) cg)) ⟨g1, n, c1, l.reverse⟩ (.slice (some ⟨gg, 0, none⟩) (hs'.length + 1) cg) (hs' ++ [(⟨g3, n3, c3, l3⟩ : LoopT)]) := by
              refine ⟨keep5 _ hN3.1, by simpa [LoopT.v] using hr5, fun t ht => ?_⟩
              rcases List.mem_append.1 ht with h | h
              · exact keep5 t (hN3.2.2 t h)
              · obtain rfl : t = ⟨g3, n3, c3, l3⟩ := by simpa using h
                exact keep5 _ hin3
            have L4 := lies_set1 (z := .slice (some ⟨gg, 0, none⟩) (hs'.length + 1) cg) Lo5
            have J5 := (((bw_trans hnx.drew J3).alloc (by omega) (.cells #[.slice (some ⟨g3, 0, none⟩) n3 c3] 23)).grown hgr5 (by simp; omega) (fun j e => by have := (hN3.2.1.lt j e).1; omega)).setCell (p := ⟨w5.heap.size, 1, none⟩) (Nat.le_refl _) (.slice (some ⟨gg, 0, none⟩) (hs'.length + 1) cg)
            clear hown5 hgr5 hat5 hlt5 keep5 hr5 O5 hN3 Lo3 Lo5 d03 d13 f03 f13 d05 d15 f05 f15 B34 hS3 hS4 hS5 hS6
            generalize y5.setCell ⟨w5.heap.size, 1, none⟩ (.slice (some ⟨gg, 0, none⟩) (hs'.length + 1) cg) = x4 at *
            obtain ⟨d0, d1, f0, f1⟩ := lies2 L4
            go_wp2_with fail
            go_roundw
            case rel =>
              refine ⟨k + 1, _, hs' ++ [(⟨g3, n3, c3, l3⟩ : LoopT)], by omega, by have e : (m : Int) - 1 = (N : Int) - 1 - ((k + 1 : Nat) : Int) := (by omega); rw [e], L4, hN4, by simp [Hkl.out], ?_, J5⟩
              rw [List.map_append, hmap, List.take_add_one, hmr]
              simp [← hl3]
            case measure => simp [intOf]
          · skip
            have B34 : Below w6.heap.size w6 (w6.alloc (.cells #[.slice (some ⟨g3, 0, none⟩) n3 c3] 23)) := (by repeat (first | exact bw_refl _ | assumption | apply bw_drewN | apply bw_drew | apply bw_alloc | refine bw_set ?_ (by simp) _))
            have hS4 : (fun w' : World => w'.cell? ⟨w1.heap.size, 1, none⟩ = some (.slice (some ⟨gh, 0, none⟩) N ch) ∧ w'.cell? ⟨gh, m, none⟩ = some (.slice (some ⟨gt, 0, none⟩) nt ct)) (w6.alloc (.cells #[.slice (some ⟨g3, 0, none⟩) n3 c3] 23)) := ⟨(B34.cell (p := ⟨w1.heap.size, 1, none⟩) (show w1.heap.size < w6.heap.size by omega)).trans hS3.1, (B34.cell (p := ⟨gh, m, none⟩) (show gh < w6.heap.size by omega)).trans hS3.2⟩
            refine wpOp_now rfl (by rfl) ?_
            go_simp
            refine wpAnyH_all (rs := [1]) (by kernel_rfl) (by simp) ?_
            intro i hi
            obtain rfl : i = 1 := by simpa using hi
            refine YieldsIf.wpOp (S := fun w' => w' = w6.alloc (.cells #[.slice (some ⟨g3, 0, none⟩) n3 c3] 23)) (v := hv') rfl (Or.inl ⟨by rfl, by rintro w' rfl; go_simp⟩) rfl ⟨hS4, ?_⟩
            refine wpAnyH_all (rs := [9]) (by kernel_rfl) (by simp) ?_
            intro i hi
            obtain rfl : i = 9 := by simpa using hi
            refine wpOp_now rfl (by rfl) ?_
            refine wp_append_lies _ _ _ _ (by rfl) w5.heap.size 23 i0 _ 1 24 Try.underlying24 hi0 hz0 hz1 hz2 rfl (by omega) _ hs'.length _ (by rfl) (hN3.2.1.alloc _) ⟨w6.heap.size, 0, none⟩ 1 1 [.slice (some ⟨g3, 0, none⟩) n3 c3] (by rfl) (by rfl) (World.news_of_block (cs := #[.slice (some ⟨g3, 0, none⟩) n3 c3]) (t := 23) (fr := (0, 0)) (heap_alloc_new w6 _)) (by simp [Value.oneCell']) (by omega) hmax (by omega) (by simp; omega) (w6.heap.size + 1) (by simp) ?_
            intro gg cg y5 hown5 hgr5 hat5 hlt5
            have Lo5 := lies_grown (Lo3.alloc _) hgr5 (fun e => own_ne_box hN3.2.1 Lo3 e.symm)
            have hS5 : (fun w' : World => w'.cell? ⟨w1.heap.size, 1, none⟩ = some (.slice (some ⟨gh, 0, none⟩) N ch) ∧ w'.cell? ⟨gh, m, none⟩ = some (.slice (some ⟨gt, 0, none⟩) nt ct)) y5 := ⟨(World.cell?_of_block (a := ⟨w1.heap.size, 1, none⟩) (hgr5.block w1.heap.size (by simp; omega) (fun e => own_ne_box hN3.2.1 PB3 e.symm))).trans hS4.1, (World.cell?_of_block (a := ⟨gh, m, none⟩) (hgr5.block gh (by simp; omega) (fun e => by have := (hN3.2.1.lt _ e.symm).1; omega))).trans hS4.2⟩
            refine ⟨hS5, ?_⟩
            simp only [Act.put, List.setIfInBounds_toArray]
            refine wpAnyH_take (i := 10) (v := .pointer (some ⟨w5.heap.size, 1, none⟩)) rfl (by kernel_rfl) (by kernel_rfl) (by kernel_rfl) (fun _ _ _ h => h) (Or.inl ⟨by rfl, by rintro w' ⟨s1, s2⟩; go_simp⟩) hS5 ?_
            refine wpAnyH_all (rs := [11]) (by kernel_rfl) (by simp) ?_
            intro i hi
            obtain rfl : i = 11 := by simpa using hi
            obtain ⟨d05, d15, f05, f15⟩ := lies2 Lo5
            have O5 : Only w5.heap.size y5 (y5.setCell ⟨w5.heap.size, 1, none⟩ (.slice (some ⟨gg, 0, none⟩) (hs'.length + 1) cg)) := (Only.refl (w5.heap.size) y5).set (p := ⟨w5.heap.size, 1, none⟩) (.inl rfl) _
            have hggn : gg ≠ w5.heap.size := fun e => own_ne_box hown5 Lo5 (by rw [← e]; rfl)
            have hS6 : (fun w' : World => w'.cell? ⟨w1.heap.size, 1, none⟩ = some (.slice (some ⟨gh, 0, none⟩) N ch) ∧ w'.cell? ⟨gh, m, none⟩ = some (.slice (some ⟨gt, 0, none⟩) nt ct)) (y5.setCell ⟨w5.heap.size, 1, none⟩ (.slice (some ⟨gg, 0, none⟩) (hs'.length + 1) cg)) := ⟨(World.cell?_of_block (a := ⟨w1.heap.size, 1, none⟩) (O5.block w1.heap.size (by omega) (by have := hgr5.size; simp at this; omega))).trans hS5.1, (World.cell?_of_block (a := ⟨gh, m, none⟩) (O5.block gh (by omega) (by have := hgr5.size; simp at this; omega))).trans hS5.2⟩
            refine wpOp_now rfl (by rfl) ?_
            go_simp
            refine wpAnyH_done (by kernel_rfl) ?_ _
            simp only [Exit.then, Exit.inBlock]
            have keep5 : ∀ t : LoopT, t.in w6 → t.in (y5.setCell ⟨w5.heap.size, 1, none⟩ (.slice (some ⟨gg, 0, none⟩) (hs'.length + 1) cg)) := fun t ht => by
              have h5 := (ht.below B34).grown hgr5 (ht.ne_own hN3.2.1)
              exact h5.only O5 (h5.ne_box Lo5)
            have hr5 := own_only' hown5 O5 (fun e => hggn (Option.some.inj e))
            have hN4 : PlN w5.heap.size (y5.setCell ⟨w5.heap.size, 1, none⟩ (.slice (some ⟨gg, 0, none⟩) (hs'.length + 1) cg)) ⟨g1, n, c1, l.reverse⟩ (.slice (some ⟨gg, 0, none⟩) (hs'.length + 1) cg) (hs' ++ [(⟨g3, n3, c3, l3⟩ : LoopT)]) := by
              refine ⟨keep5 _ hN3.1, by simpa [LoopT.v] using hr5, fun t ht => ?_⟩
              rcases List.mem_append.1 ht with h | h
              · exact keep5 t (hN3.2.2 t h)
              · obtain rfl : t = ⟨g3, n3, c3, l3⟩ := by simpa using h
                exact keep5 _ hin3
            have L4 := lies_set1 (z := .slice (some ⟨gg, 0, none⟩) (hs'.length + 1) cg) Lo5
            have J5 := (((bw_trans hnx.drew J3).alloc (by omega) (.cells #[.slice (some ⟨g3, 0, none⟩) n3 c3] 23)).grown hgr5 (by simp; omega) (fun j e => by have := (hN3.2.1.lt j e).1; omega)).setCell (p := ⟨w5.heap.size, 1, none⟩) (Nat.le_refl _) (.slice (some ⟨gg, 0, none⟩) (hs'.length + 1) cg)
            clear hown5 hgr5 hat5 hlt5 keep5 hr5 O5 hN3 Lo3 Lo5 d03 d13 f03 f13 d05 d15 f05 f15 B34 hS3 hS4 hS5 hS6
            generalize y5.setCell ⟨w5.heap.size, 1, none⟩ (.slice (some ⟨gg, 0, none⟩) (hs'.length + 1) cg) = x4 at *
            obtain ⟨d0, d1, f0, f1⟩ := lies2 L4
            go_wp2_with fail
            go_roundw
            case rel =>
              refine ⟨k + 1, _, hs' ++ [(⟨g3, n3, c3, l3⟩ : LoopT)], by omega, by have e : (m : Int) - 1 = (N : Int) - 1 - ((k + 1 : Nat) : Int) := (by omega); rw [e], L4, hN4, by simp [Hkl.out], ?_, J5⟩
              rw [List.map_append, hmap, List.take_add_one, hmr]
              simp [← hl3]
            case measure => simp [intOf]
end Go.Proofs.Ythedlopfjlnogaa
