/-
  OUR OWN TEXT. The law FnLoopStraight, walked: whatever bytes come in, it answers true and writes nothing that was there.
-/
import Derived.Test.YtempleochkohlaaLuL
import Derived.Test.YtempleochkohlaaSize
import Derived.Test.YtempleochkohlaaSSize
import Derived.Test.YtempleochkohlaaLoopL
import Derived.Deep.RegionHeld3
namespace Go.Proofs.Ytempleochkohlaa
open Go.RowKit Go.Sort

theorem loopStraight_long (w : World) (a0 a1 : Option Addr) (len0 cap0 len1 cap1 : Nat) (h : 1048576 < len0 ∨ (len0 ≤ 1048576 ∧ 1048576 < len1)) :
    Calls Try.prog 10 #[.slice a0 len0 cap0, .slice a1 len1 cap1] w fun e w' => e = .returned (.bool true) ∧ Below w.heap.size w w' := by
  rcases h with h | ⟨h, h2⟩
  · go_enter Try.func10, Try.ntmps10
    go_wp2
    go_ret
    exact ⟨rfl, bw_refl _⟩
  · have h' : ¬ (1048576 < len0) := by omega
    go_enter Try.func10, Try.ntmps10
    go_wp2
    go_ret
    exact ⟨rfl, bw_refl _⟩
theorem tn_zero {ax ay bx b_y cx cy : Int} (h : tn ax ay bx b_y cx cy = 0) : crs ax ay bx b_y cx cy = 0 := by
  unfold tn cmpI at h; split at h
  · omega
  · split at h <;> omega
/-- Append, whatever comes, as a step of a region that draws. -/
theorem step_append_any {P : Program} {w : World} {ops : Array Oper} {o : Oper} {a : Act} {K : Act → World → Prop} {Q : Exit → Act → World → Prop} {E : Prop} (hgd : o.guard = none) (s x : Operand) (t : TypeId)
    (ho : o.op = .call { callee := .builtin .append, args := #[s, x], argTypes := #[t, t] })
    (base : Nat) (e : TypeId) (i : TypeInfo) (z : Value) (size bytes : Nat) (ht : P.underlying t = some (.slice e)) (hi : P.info? e = some i) (hz : i.zero = some z)
    (hsize : i.size = size) (hby : i.bytes = bytes) (hzs : z.cells.size = size) (hsz : 0 < size)
    (v : Value) (n : Nat) (xs : List Value) (hs : a.eval s = v) (hown : w.ownsRow base e size v n xs)
    (ad : Addr) (m c : Nat) (news : List Value) (hx : a.eval x = .slice (some ad) m c) (hl : news.length = m * size) (hnews : ∀ j u, news[j]? = some u → w.cell? (ad.add j) = some u) (h1 : ∀ u ∈ news, u.oneCell' = true)
    (h63 : n + m ≤ maxLen) (hbytes : (n + m) * bytes ≤ 140737488355328) (hbase : base ≤ w.heap.size)
    (h : ∀ v' w', w'.ownsRow base e size v' (n + m) (xs ++ news) → w.grownBy w' v.ownBlock → K (a.put o.dst v') w') :
    if Region.wanted o (yielded ops a.tmps) = true then Oper.wp P o a w K Q else E := by
  have hw : Region.wanted o (yielded ops a.tmps) = true := by simp [Region.wanted, hgd]
  rw [if_pos hw]
  obtain ⟨v', w', hr, h2, h3, _⟩ := run_append_own (P := P) w base t o.type e i z size bytes ht hi hz hsize hby hzs hsz v n xs hown ad m c news hl hnews h1 h63 hbytes hbase
  unfold Oper.wp execOp
  simp only [ho, resolve, invoke, builtin, Sem.run_bind, Sem.run_pure, Result.andThen_ok, List.map_toArray, List.map_cons, List.map_nil, hs, hx, hr]
  exact h v' w' h2 h3
set_option maxRecDepth 100000 in
set_option maxHeartbeats 40000000 in
theorem loopStraight_walk (w : World) (a0 : Option Addr) (len0 cap0 : Nat) (z0 : List Int) (r0 : IsRow .u8 w a0 len0 cap0 z0) (a1 : Option Addr) (len1 cap1 : Nat) (z1 : List Int) (_ : IsRow .u8 w a1 len1 cap1 z1) :
    Calls Try.prog 10 #[.slice a0 len0 cap0, .slice a1 len1 cap1] w fun e w' => e = .returned (.bool true) ∧ Below w.heap.size w w' := by
  by_cases hl : 1048576 < len0 ∨ (len0 ≤ 1048576 ∧ 1048576 < len1)
  · exact loopStraight_long w a0 a1 len0 cap0 len1 cap1 hl
  have hl0 : len0 ≤ 1048576 := by omega
  have hl1 : len1 ≤ 1048576 := by omega
  clear hl
  obtain ⟨i0, hi0, hz0, hz1, hz2⟩ := info_parts Try.infoPt
  go_enter Try.func10, Try.ntmps10
  go_wp2_with fail
  refine (drawSize_any w _ r0 (bw_refl _)).mono ?_
  rintro e w1 ⟨vv, l, n, rfl, ⟨g, c, rfl, n3, n7, hl, hnc, hcm, hbg, hb⟩, J1⟩
  have hP1 := hb.pts' hl
  go_wp2_with fail
  refine (size_any _ n c l (by omega) _ hP1).mono ?_
  rintro e w2 ⟨rfl, J2⟩
  go_wp2_with fail
  refine (sSize_any _ n c l (by omega) _ ((hP1.below J2).grow J2.size)).mono ?_
  rintro e w3 ⟨rfl, J3⟩
  have K3 := bw_trans J2 J3
  cases hok : okV l
  case false =>
    go_wp2_with fail
    refine (sOk_any _ n c l (by omega) _ ((hP1.below K3).grow K3.size)).mono ?_
    rw [hok]
    rintro e w4 ⟨rfl, J4⟩
    have K4 := bw_trans K3 J4
    go_wp2_with fail
    refine (sSize_any _ n c l (by omega) _ ((hP1.below K4).grow K4.size)).mono ?_
    rintro e w5 ⟨rfl, J5⟩
    go_wp2_with fail
    go_ret
    exact ⟨rfl, bw_trans J1 (bw_trans K4 J5)⟩
  case true =>
    by_cases h4 : n < 4
    · go_wp2_with fail
      refine (sOk_any _ n c l (by omega) _ ((hP1.below K3).grow K3.size)).mono ?_
      rw [hok]
      rintro e w4 ⟨rfl, J4⟩
      have K4 := bw_trans K3 J4
      go_wp2_with fail
      refine (sSize_any _ n c l (by omega) _ ((hP1.below K4).grow K4.size)).mono ?_
      rintro e w5 ⟨rfl, J5⟩
      go_wp2_with fail
      go_ret
      exact ⟨rfl, bw_trans J1 (bw_trans K4 J5)⟩
    have hO := (okV_iff l).1 hok
    obtain ⟨k, hk⟩ : ∃ k : Nat, (len1 : Int).tmod (n : Int) = (k : Int) := ⟨((len1 : Int).tmod (n : Int)).toNat, by rw [Int.toNat_of_nonneg]; exact (tmod_bd (len1 : Int) n (by omega) (by omega)).1⟩
    have hkn : k < n := by have := (tmod_bd (len1 : Int) (n : Int) (by omega) (by omega)).2; omega
    have hz : (n = 0) = False := by simp; omega
    obtain ⟨pa, hpa0⟩ : ∃ pa, (k + l.length - 1) % l.length = pa := ⟨_, rfl⟩
    have hpa : pa < n := by rw [← hpa0, hl]; exact Nat.mod_lt _ (by omega)
    have hnn : nxt l k < n := by have := nxt_lt (l := l) (i := k) (by omega); omega
    have q1 : IntKind.i64.wrap ((k : Int) + n) = (k : Int) + n := wrap_small (by omega) (by omega)
    have q2 : IntKind.i64.wrap ((k : Int) + n - 1) = (k : Int) + n - 1 := wrap_small (by omega) (by omega)
    have q3 : ((k : Int) + n - 1).tmod (n : Int) = (pa : Int) := by
      have e : (k : Int) + n - 1 = ((k + n - 1 : Nat) : Int) := by omega
      rw [e, Int.tmod_eq_emod_of_nonneg (by omega), ← hpa0, hl]; simp
    have q4 : IntKind.i64.wrap ((k : Int) + 1) = (k : Int) + 1 := wrap_small (by omega) (by omega)
    have q5 : ((k : Int) + 1).tmod (n : Int) = (nxt l k : Int) := by
      rw [Int.tmod_eq_emod_of_nonneg (by omega)]; unfold nxt; rw [hl]; simp
    have HP : Hid (∀ i, i < n → ptB (ptAt l i).1 (ptAt l i).2 = true) := fun i hi => (sgP_pt (hO.seg i (by omega))).1
    obtain ⟨tv, htv⟩ : ∃ tv, tn (ptAt l pa).1 (ptAt l pa).2 (ptAt l k).1 (ptAt l k).2 (ptAt l (nxt l k)).1 (ptAt l (nxt l k)).2 = tv := ⟨_, rfl⟩
    have hsz := less_size (l := l) (by omega) (k := k) (by omega)
    rw [hpa0] at hsz
    have hstr : tn (ptAt l pa).1 (ptAt l pa).2 (ptAt l k).1 (ptAt l k).2 (ptAt l (nxt l k)).1 (ptAt l (nxt l k)).2 = 0 → okV (without k l) = true ∧ sizeV (without k l) = sizeV l := fun e => by
      have c0 := tn_zero e
      have h1 : OkL (without k l) := less_ok hO (by omega) (by omega) (by rw [hpa0]; exact c0)
      have h2 := (okV_iff _).2 h1
      refine ⟨h2, ?_⟩
      unfold sizeV; rw [h2, hok]; simp only [if_true]
      have : crs (ptAt l pa).1 (ptAt l pa).2 (ptAt l k).1 (ptAt l k).2 (ptAt l ((k + 1) % l.length)).1 (ptAt l ((k + 1) % l.length)).2 = 0 := c0
      omega
    have hturn : tn (ptAt l pa).1 (ptAt l pa).2 (ptAt l k).1 (ptAt l k).2 (ptAt l (nxt l k)).1 (ptAt l (nxt l k)).2 = tv → tv ≠ 0 → okV (without k l) = true → sizeV (without k l) ≠ sizeV l := fun e h0 h2 => by
      have c0 : crs (ptAt l pa).1 (ptAt l pa).2 (ptAt l k).1 (ptAt l k).2 (ptAt l ((k + 1) % l.length)).1 (ptAt l ((k + 1) % l.length)).2 ≠ 0 := fun e' => h0 (by rw [← e]; unfold tn; rw [show crs (ptAt l pa).1 (ptAt l pa).2 (ptAt l k).1 (ptAt l k).2 (ptAt l (nxt l k)).1 (ptAt l (nxt l k)).2 = 0 from e']; rfl)
      unfold sizeV; rw [h2, hok]; simp only [if_true]
      omega
    have HTV : Hid (tn (ptAt l pa).1 (ptAt l pa).2 (ptAt l k).1 (ptAt l k).2 (ptAt l (nxt l k)).1 (ptAt l (nxt l k)).2 = tv) := htv
    have HSTR : Hid (tn (ptAt l pa).1 (ptAt l pa).2 (ptAt l k).1 (ptAt l k).2 (ptAt l (nxt l k)).1 (ptAt l (nxt l k)).2 = 0 → okV (without k l) = true ∧ sizeV (without k l) = sizeV l) := hstr
    have HTURN : Hid (tn (ptAt l pa).1 (ptAt l pa).2 (ptAt l k).1 (ptAt l k).2 (ptAt l (nxt l k)).1 (ptAt l (nxt l k)).2 = tv → tv ≠ 0 → okV (without k l) = true → sizeV (without k l) ≠ sizeV l) := hturn
    clear hsz hpa0 hO htv hstr hturn
    have i1 : (0 : Int) ≤ (k : Int) := Int.natCast_nonneg _
    have i2 : (k : Int) < (n : Int) := by omega
    have i3 : (0 : Int) ≤ (pa : Int) := Int.natCast_nonneg _
    have i4 : (pa : Int) < (n : Int) := by omega
    have i5 : (0 : Int) ≤ (nxt l k : Int) := Int.natCast_nonneg _
    have i6 : (nxt l k : Int) < (n : Int) := by omega
    go_wp2_with fail
    refine (sOk_any _ n c l (by omega) _ ((hP1.below K3).grow K3.size)).mono ?_
    rw [hok]
    rintro e w4 ⟨rfl, J4⟩
    have K4 := bw_trans K3 J4
    replace hb := hb.below K4
    obtain ⟨_, hPc⟩ := hb.pts' hl
    rcases hPc with h0 | ⟨b', off', hbo, hbl, hcs⟩
    · omega
    cases hbo
    have a0 := (hcs pa hpa).1
    have a1' := (hcs pa hpa).2
    have b0 := (hcs _ hnn).1
    have b1 := (hcs _ hnn).2
    simp only [Nat.zero_add] at a0 a1' b0 b1
    clear hcs hP1
    obtain ⟨W, hW, BW, TA, TB⟩ := boxes2 w4 (.cells #[.int .i64 (ptAt l pa).1, .int .i64 (ptAt l pa).2] 24) (.cells #[.int .i64 (ptAt l (nxt l k)).1, .int .i64 (ptAt l (nxt l k)).2] 24)
    go_upto_region 10 with fail
    rw [← hW]
    clear hW a0 a1' b0 b1 hbl
    have KW := bw_trans (bw_trans J1 K4) BW
    replace hb := hb.below BW
    clear BW J2 J3 J4 K3 K4 J1
    have zg := hb.lt
    unfold maxLen at hcm
    have hmade : ((W.alloc (.cells #[] 24)).drew).ownsRow W.heap.size 24 2 (.slice (some ⟨W.heap.size, 0, none⟩) 0 0) 0 [] := (World.ownsRow_made W #[] 0 (Nat.le_refl _) (by simp [maxLen]) rfl : _)
    have hb1 : PtBlk ((W.alloc (.cells #[] 24)).drew) g c l n := hb.below (by repeat (first | exact bw_refl _ | assumption | apply bw_drewN | apply bw_drew | apply bw_alloc | refine bw_set ?_ (by simp) _))
    have hd : (ptCells (l.drop (k + 1))).length = (n - (k + 1)) * 2 := by rw [ptCells_len, List.length_drop, hl]
    have ht : (ptCells (l.take k)).length = k * 2 := by rw [ptCells_len, List.length_take, hl]; congr 1; omega
    have j1 : (k : Int) ≤ (c : Int) := by omega
    have j2 : (k : Int) + 1 ≤ (c : Int) := by omega
    have j3 : (k : Int) + 1 ≤ (n : Int) := by omega
    have j4 : (0 : Int) ≤ (k : Int) + 1 := by omega
    have j5 : (n : Int) ≤ (c : Int) := by omega
    have j6 : ((k : Int) + 1).toNat = k + 1 := by omega
    have j7 : ((n : Int) - ((k : Int) + 1)).toNat = n - (k + 1) := by omega
    have j8 : ((c : Int) - ((k : Int) + 1)).toNat = c - (k + 1) := by omega
    have hw7 : Hid (∀ (w6 w7 : World) (v1 : Value) (g2 c2 m : Nat), m = n - (k + 1) → w6.ownsRow W.heap.size 24 2 v1 (0 + k) ([] ++ ptCells (l.take k)) → w7.ownsRow W.heap.size 24 2 (.slice (some ⟨g2, 0, none⟩) (0 + k + m) c2) (0 + k + m) ([] ++ ptCells (l.take k) ++ ptCells (l.drop (k + 1))) → ((W.alloc (.cells #[] 24)).drew).grownBy w6 (some W.heap.size) → w6.grownBy w7 v1.ownBlock → Below W.heap.size W w7 ∧ PtBlk w7 g2 c2 (without k l) (0 + k + m)) := fun w6 w7 v1 g2 c2 m hm h1 h2 g1 gg2 => by
      have B0 : Below W.heap.size W ((W.alloc (.cells #[] 24)).drew) := (by repeat (first | exact bw_refl _ | assumption | apply bw_drewN | apply bw_drew | apply bw_alloc | refine bw_set ?_ (by simp) _))
      refine ⟨(B0.grown g1 B0.size (fun j e => Nat.le_of_eq (Option.some.inj e))).grown gg2 (by have := g1.size; simp at this; omega) (fun j e => (h1.lt j e).1), ?_⟩
      have h3 : w7.ownsRow W.heap.size 24 2 (.slice (some ⟨g2, 0, none⟩) (0 + k + m) c2) (0 + k + m) (ptCells (without k l)) := by unfold without; rw [ptCells_append]; exact h2
      exact (blk_of_own h3 (by rw [without_len (by omega), hl]; omega)).1
    by_cases hck : c = k + 1
    · obtain rfl : n = c := by omega
      have hkc : k + 1 = n := hck.symm
      clear hck
      have hd0 : (ptCells (l.drop (k + 1))).length = 0 * 2 := by rw [hd]; omega
      go_wp2_with fail
      go_region_held3 (fun _ => True) (trivial)
        (first
          | (refine step_append_any (by rfl) _ _ _ (by rfl) W.heap.size 24 i0 _ 2 16 Try.underlying30 hi0 hz0 hz1 hz2 rfl (by omega) _ 0 [] (by rfl) hmade ⟨g, 0, none⟩ k n (ptCells (l.take k)) (by rfl) ht (news_0 hb1 hl (fun j u hu => by rw [ptCells_take] at hu; exact of_take hu)) (ptCells_one _) (by simp [maxLen]; omega) (by omega) (by simp) ?_; intro v1 w6 hown1 hgr1; have hb2 : PtBlk w6 g n l n := blk_grown hb1 hgr1 (fun e => absurd (Option.some.inj e) (Nat.ne_of_lt zg)))
          | (refine step_append_more (by rfl) _ _ _ (by rfl) W.heap.size 24 i0 _ 2 16 Try.underlying30 hi0 hz0 hz1 hz2 rfl (by omega) _ (0 + k) _ (by rfl) hown1 ⟨g, 0, none⟩ 0 0 (ptCells (l.drop (k + 1))) (by rfl) hd0 (fun j u hu => by rw [List.drop_eq_nil_of_le (by omega)] at hu; simp [ptCells] at hu) (ptCells_one _) (by omega) (by simp [maxLen]; omega) (by omega) (by have := hgr1.size; simp at this; omega) ?_; intro g2 c2 w7 hown2 hgr2 hg2))
      obtain ⟨J7, hb7⟩ := hw7.out w6 w7 v1 g2 c2 _ (by omega) hown1 hown2 hgr1 hgr2
      replace TA := keep J7 TA
      replace TB := keep J7 TB
      replace hb := hb.below J7
      have K7 := bw_trans KW J7
      clear hmade hb1 hb2 hown1 hown2 hgr1 hgr2 hd ht J7
      generalize hgn : 0 + k + 0 = nn at hb7 ⊢
      obtain rfl : k = nn := by omega
      obtain ⟨_, hPc⟩ := hb.pts' hl
      rcases hPc with h0 | ⟨b', off', hbo, hbl, hcs⟩
      · omega
      cases hbo
      have l0 := cell_regrown (hcs k hkn).1
      have l1 := cell_regrown (hcs k hkn).2
      simp only [Nat.zero_add] at l0 l1
      obtain ⟨ua0, ua1⟩ := reg_2 TA
      obtain ⟨ub0, ub1⟩ := reg_2 TB
      clear hcs hgn
      have XT : Hid (∀ w, Calls Try.prog 14 #[.agg #[.int .i64 (ptAt l pa).1, .int .i64 (ptAt l pa).2], .agg #[.int .i64 (ptAt l k).1, .int .i64 (ptAt l k).2], .agg #[.int .i64 (ptAt l (nxt l k)).1, .int .i64 (ptAt l (nxt l k)).2]] w fun e w' => e = .returned (.int .i64 tv) ∧ Below w.heap.size w w') := fun w => by
        have := turn_ok (ptAt l pa).1 (ptAt l pa).2 (ptAt l k).1 (ptAt l k).2 (ptAt l (nxt l k)).1 (ptAt l (nxt l k)).2 w (HP.out pa hpa) (HP.out k hkn) (HP.out (nxt l k) hnn); rwa [HTV.out] at this
      have hl7 : (without k l).length = k := by have hwl := without_len (l := l) (k := k) (by omega); omega
      by_cases h0 : tv = 0
      · subst h0
        obtain ⟨okL, szL⟩ := HSTR.out HTV.out
        go_wp2_with fail
        refine wp_region_quiet_below (by kernel_rfl) (by kernel_rfl) ?_
        repeat (first | go_big_quiet_step (first | (go_at_call 14; with_reducible exact Calls.regrown_of (XT.out _))))
        refine wpQuiet_nil ?_
        intro _ hw'
        obtain ⟨⟨dq, osq⟩, hw''⟩ := hw'
        subst hw''
        have J := below_regrown w7 dq osq
        generalize grow (redrawn w7 dq) osq = w8 at J ⊢
        go_wp2_with fail
        refine (ok_any _ (k) c2 (without k l) (by omega) _ ((hb7.below J).pts' hl7)).mono ?_
        rw [okL]
        rintro e w9 ⟨rfl, J9⟩
        have J89 := bw_trans J J9
        go_wp2_with fail
        refine (size_any _ (k) c2 (without k l) (by omega) _ ((hb7.below J89).pts' hl7)).mono ?_
        rw [szL]
        rintro e w10 ⟨rfl, J10⟩
        go_wp2_with fail
        go_ret
        exact ⟨rfl, bw_trans K7 (bw_trans J89 J10)⟩
      · have e0 : (tv == 0) = false := by simpa using h0
        have e0' : (tv != 0) = true := by simpa using h0
        cases okL : okV (without k l)
        · go_wp2_with fail
          refine wp_region_quiet_below (by kernel_rfl) (by kernel_rfl) ?_
          repeat (first | go_big_quiet_step (first | (go_at_call 14; with_reducible exact Calls.regrown_of (XT.out _))))
          refine wpQuiet_nil ?_
          intro _ hw'
          obtain ⟨⟨dq, osq⟩, hw''⟩ := hw'
          subst hw''
          have J := below_regrown w7 dq osq
          generalize grow (redrawn w7 dq) osq = w8 at J ⊢
          go_wp2_with fail
          refine (ok_any _ (k) c2 (without k l) (by omega) _ ((hb7.below J).pts' hl7)).mono ?_
          rw [okL]
          rintro e w9 ⟨rfl, J9⟩
          have J89 := bw_trans J J9
          go_wp2_with fail
          go_ret
          exact ⟨rfl, bw_trans K7 J89⟩
        · have szL := HTURN.out HTV.out h0 okL
          have e1 : (sizeV (without k l) == sizeV l) = false := by simpa using szL
          have e1' : (sizeV (without k l) != sizeV l) = true := by simpa using szL
          clear szL
          go_wp2_with fail
          refine wp_region_quiet_below (by kernel_rfl) (by kernel_rfl) ?_
          repeat (first | go_big_quiet_step (first | (go_at_call 14; with_reducible exact Calls.regrown_of (XT.out _))))
          refine wpQuiet_nil ?_
          intro _ hw'
          obtain ⟨⟨dq, osq⟩, hw''⟩ := hw'
          subst hw''
          have J := below_regrown w7 dq osq
          generalize grow (redrawn w7 dq) osq = w8 at J ⊢
          go_wp2_with fail
          refine (ok_any _ (k) c2 (without k l) (by omega) _ ((hb7.below J).pts' hl7)).mono ?_
          rw [okL]
          rintro e w9 ⟨rfl, J9⟩
          have J89 := bw_trans J J9
          go_wp2_with fail
          refine (size_any _ (k) c2 (without k l) (by omega) _ ((hb7.below J89).pts' hl7)).mono ?_
          rintro e w10 ⟨rfl, J10⟩
          go_wp2_with fail
          go_ret
          exact ⟨rfl, bw_trans K7 (bw_trans J89 J10)⟩
    · have hck' : (c = k + 1) = False := by simp [hck]
      go_wp2_with fail
      go_region_held3 (fun _ => True) (trivial)
        (first
          | (refine step_append_any (by rfl) _ _ _ (by rfl) W.heap.size 24 i0 _ 2 16 Try.underlying30 hi0 hz0 hz1 hz2 rfl (by omega) _ 0 [] (by rfl) hmade ⟨g, 0, none⟩ k c (ptCells (l.take k)) (by rfl) ht (news_0 hb1 hl (fun j u hu => by rw [ptCells_take] at hu; exact of_take hu)) (ptCells_one _) (by simp [maxLen]; omega) (by omega) (by simp) ?_; intro v1 w6 hown1 hgr1; have hb2 : PtBlk w6 g c l n := blk_grown hb1 hgr1 (fun e => absurd (Option.some.inj e) (Nat.ne_of_lt zg)))
          | (refine step_append_more (by rfl) _ _ _ (by rfl) W.heap.size 24 i0 _ 2 16 Try.underlying30 hi0 hz0 hz1 hz2 rfl (by omega) _ (0 + k) _ (by rfl) hown1 ⟨g, (k + 1) * 2, none⟩ (n - (k + 1)) (c - (k + 1)) (ptCells (l.drop (k + 1))) (by rfl) hd (news_at hb2 hl (fun j u hu => by rw [ptCells_drop, List.getElem?_drop] at hu; exact hu)) (ptCells_one _) (by omega) (by simp [maxLen]; omega) (by omega) (by have := hgr1.size; simp at this; omega) ?_; intro g2 c2 w7 hown2 hgr2 hg2))
      obtain ⟨J7, hb7⟩ := hw7.out w6 w7 v1 g2 c2 _ (by omega) hown1 hown2 hgr1 hgr2
      replace TA := keep J7 TA
      replace TB := keep J7 TB
      replace hb := hb.below J7
      have K7 := bw_trans KW J7
      clear hmade hb1 hb2 hown1 hown2 hgr1 hgr2 hd ht J7
      generalize hgn : 0 + k + (n - (k + 1)) = nn at hb7 ⊢
      have hn1 : nn + 1 = n := by omega
      have hn2 : k + (n - (k + 1)) = nn := by omega
      simp only [hn2]
      clear hn2
      obtain ⟨_, hPc⟩ := hb.pts' hl
      rcases hPc with h0 | ⟨b', off', hbo, hbl, hcs⟩
      · omega
      cases hbo
      have l0 := cell_regrown (hcs k hkn).1
      have l1 := cell_regrown (hcs k hkn).2
      simp only [Nat.zero_add] at l0 l1
      obtain ⟨ua0, ua1⟩ := reg_2 TA
      obtain ⟨ub0, ub1⟩ := reg_2 TB
      clear hcs hgn
      have XT : Hid (∀ w, Calls Try.prog 14 #[.agg #[.int .i64 (ptAt l pa).1, .int .i64 (ptAt l pa).2], .agg #[.int .i64 (ptAt l k).1, .int .i64 (ptAt l k).2], .agg #[.int .i64 (ptAt l (nxt l k)).1, .int .i64 (ptAt l (nxt l k)).2]] w fun e w' => e = .returned (.int .i64 tv) ∧ Below w.heap.size w w') := fun w => by
        have := turn_ok (ptAt l pa).1 (ptAt l pa).2 (ptAt l k).1 (ptAt l k).2 (ptAt l (nxt l k)).1 (ptAt l (nxt l k)).2 w (HP.out pa hpa) (HP.out k hkn) (HP.out (nxt l k) hnn); rwa [HTV.out] at this
      have hl7 : (without k l).length = nn := by have hwl := without_len (l := l) (k := k) (by omega); omega
      by_cases h0 : tv = 0
      · subst h0
        obtain ⟨okL, szL⟩ := HSTR.out HTV.out
        go_wp2_with fail
        refine wp_region_quiet_below (by kernel_rfl) (by kernel_rfl) ?_
        repeat (first | go_big_quiet_step (first | (go_at_call 14; with_reducible exact Calls.regrown_of (XT.out _))))
        refine wpQuiet_nil ?_
        intro _ hw'
        obtain ⟨⟨dq, osq⟩, hw''⟩ := hw'
        subst hw''
        have J := below_regrown w7 dq osq
        generalize grow (redrawn w7 dq) osq = w8 at J ⊢
        go_wp2_with fail
        refine (ok_any _ nn c2 (without k l) (by omega) _ ((hb7.below J).pts' hl7)).mono ?_
        rw [okL]
        rintro e w9 ⟨rfl, J9⟩
        have J89 := bw_trans J J9
        go_wp2_with fail
        refine (size_any _ nn c2 (without k l) (by omega) _ ((hb7.below J89).pts' hl7)).mono ?_
        rw [szL]
        rintro e w10 ⟨rfl, J10⟩
        go_wp2_with fail
        go_ret
        exact ⟨rfl, bw_trans K7 (bw_trans J89 J10)⟩
      · have e0 : (tv == 0) = false := by simpa using h0
        have e0' : (tv != 0) = true := by simpa using h0
        cases okL : okV (without k l)
        · go_wp2_with fail
          refine wp_region_quiet_below (by kernel_rfl) (by kernel_rfl) ?_
          repeat (first | go_big_quiet_step (first | (go_at_call 14; with_reducible exact Calls.regrown_of (XT.out _))))
          refine wpQuiet_nil ?_
          intro _ hw'
          obtain ⟨⟨dq, osq⟩, hw''⟩ := hw'
          subst hw''
          have J := below_regrown w7 dq osq
          generalize grow (redrawn w7 dq) osq = w8 at J ⊢
          go_wp2_with fail
          refine (ok_any _ nn c2 (without k l) (by omega) _ ((hb7.below J).pts' hl7)).mono ?_
          rw [okL]
          rintro e w9 ⟨rfl, J9⟩
          have J89 := bw_trans J J9
          go_wp2_with fail
          go_ret
          exact ⟨rfl, bw_trans K7 J89⟩
        · have szL := HTURN.out HTV.out h0 okL
          have e1 : (sizeV (without k l) == sizeV l) = false := by simpa using szL
          have e1' : (sizeV (without k l) != sizeV l) = true := by simpa using szL
          clear szL
          go_wp2_with fail
          refine wp_region_quiet_below (by kernel_rfl) (by kernel_rfl) ?_
          repeat (first | go_big_quiet_step (first | (go_at_call 14; with_reducible exact Calls.regrown_of (XT.out _))))
          refine wpQuiet_nil ?_
          intro _ hw'
          obtain ⟨⟨dq, osq⟩, hw''⟩ := hw'
          subst hw''
          have J := below_regrown w7 dq osq
          generalize grow (redrawn w7 dq) osq = w8 at J ⊢
          go_wp2_with fail
          refine (ok_any _ nn c2 (without k l) (by omega) _ ((hb7.below J).pts' hl7)).mono ?_
          rw [okL]
          rintro e w9 ⟨rfl, J9⟩
          have J89 := bw_trans J J9
          go_wp2_with fail
          refine (size_any _ nn c2 (without k l) (by omega) _ ((hb7.below J89).pts' hl7)).mono ?_
          rintro e w10 ⟨rfl, J10⟩
          go_wp2_with fail
          go_ret
          exact ⟨rfl, bw_trans K7 (bw_trans J89 J10)⟩
end Go.Proofs.Ytempleochkohlaa
