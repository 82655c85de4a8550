/-
  OUR OWN TEXT. Both programs' FracText by contract, at every fraction; the conditions: errNoFrac holds a pointer to an errors.errorString, and the library's table of powers of ten lies as its initialiser lays it.
-/
import Derived.Test.YtebjdfpfbcbhnaaDoorDec
import Derived.Test.YtebjdfpfbcbhnaaDoorLBad
import Derived.WalkSmall
namespace Go.Proofs.YtebjdfpfbcbhnaaDoor
open Go.RowKit Go.Sort

/-- The library's table of powers of ten lies as it should. -/
def Tab (w : World) : Prop := Lib.TabIs Tryd.prog w "internal/strconv.uint64pow10" .u64 Lib.pow10Tab
theorem gP : Tryd.prog.globalNamed "internal/strconv.uint64pow10" = some 1 := by kernel_rfl
theorem Tab.lt {w : World} (h : Tab w) : 1 < w.heap.size := by
  unfold Tab Lib.TabIs World.var? at h
  rw [gP] at h
  rcases Nat.lt_or_ge 1 w.heap.size with h' | h'
  · exact h'
  · simp [Array.getElem?_eq_none h'] at h
theorem Tab.below {w w' : World} (h : Tab w) (hb : Below w.heap.size w w') : Tab w' := var?_below hb gP h.lt h

theorem itoa_any (n : Int) (w : World) (h0 : 0 ≤ n) (h1 : n ≤ 99999) (hT : Tab w) :
    Calls Tryd.prog 39 #[.int .i64 n] w fun e w' => e = .returned (.string ⟨(Lib.decDigits n.toNat).toArray⟩) ∧ Below w.heap.size w w' := by
  refine (shelf_strconv_Itoa n (by omega) (by omega) w hT).mono ?_
  rintro e w' ⟨rfl, k, os, rfl⟩
  refine ⟨ret_str ?_, ⟨rfl, rfl, rfl, by simp, fun j hj => by simp [grow, Array.getElem?_append, hj]⟩⟩
  unfold Lib.itoa
  rw [if_neg (by omega)]
theorem dec_int (n : Int) (w : World) (h0 : 0 ≤ n) (h1 : n ≤ 99999) :
    Calls Tryd.prog 40 #[.int .i64 n] w fun e w' => e = .returned (.string ⟨(Lib.decDigits n.toNat).toArray⟩) ∧ Below w.heap.size w w' := by
  obtain ⟨u, rfl⟩ := Int.eq_ofNat_of_zero_le h0
  rw [Int.toNat_natCast]
  exact dec_any u u w (by omega) (by omega)
theorem dec_len (n : Int) (h0 : 0 ≤ n) (h1 : n ≤ 99999) : (Lib.decDigits n.toNat).length ≤ 21 := by
  have := Lib.itoa_length_le n (by omega) (by omega)
  unfold Lib.itoa at this
  rwa [if_neg (by omega)] at this

/-- What FracText answers. -/
def textV (n d : Int) : ByteArray :=
  if okB n d then (if d = 1 then ⟨(Lib.decDigits n.toNat).toArray⟩ else ByteArray.mk (Lib.decDigits n.toNat).toArray ++ ByteArray.mk #[47] ++ ByteArray.mk (Lib.decDigits d.toNat).toArray) else ⟨#[]⟩

theorem sText_any (n d : Int) (w : World) :
    Calls Tryd.prog 24 #[.agg #[.int .i64 n, .int .i64 d]] w fun e w' => e = .returned (.string (textV n d)) ∧ Below w.heap.size w w' := by
  have b0 : Below w.heap.size w (w.alloc (.cells #[.int .i64 n, .int .i64 d] 26)) := bw_alloc (bw_refl _) _
  cases h : okB n d
  · have e : Hid (textV n d = ⟨#[]⟩) := by unfold textV; rw [h]; rfl
    go_enter Tryd.func24, Tryd.ntmps24
    go_wp2_with fail
    refine (sOk_no _ _ _ h).mono ?_
    rintro e w1 ⟨rfl, b1⟩
    go_wp2_with fail
    go_ret
    exact ⟨ret_str e.out.symm, bw_trans b0 b1⟩
  · have hk := (okB_iff n d).1 h
    by_cases hd : d = 1
    · have e : Hid (textV n d = ⟨(Lib.decDigits n.toNat).toArray⟩) := by show _ = _; unfold textV; rw [h]; simp [hd]
      have hdB : (d == 1) = true := by simpa using hd
      clear hd
      go_enter Tryd.func24, Tryd.ntmps24
      go_wp2_with fail
      refine (sOk_yes _ _ _ h).mono ?_
      rintro e w1 ⟨rfl, b1⟩
      obtain ⟨f0, f1⟩ := box2 b1 (by simp) (heap_new _ _)
      go_wp2_with fail
      refine (dec_int n _ hk.1 hk.2.1).mono ?_
      rintro e w2 ⟨rfl, b2⟩
      go_wp2_with fail
      go_ret
      exact ⟨ret_str e.out.symm, bw_trans (bw_trans b0 b1) b2⟩
    · have e : Hid (textV n d = ByteArray.mk (Lib.decDigits n.toNat).toArray ++ ByteArray.mk #[47] ++ ByteArray.mk (Lib.decDigits d.toNat).toArray) := by show _ = _; unfold textV; rw [h]; simp [hd]
      have hdB : (d == 1) = false := by simpa using hd
      have l1 := dec_len n hk.1 hk.2.1
      have l2 := dec_len d (by omega) (by omega)
      clear hd
      go_enter Tryd.func24, Tryd.ntmps24
      go_wp2_with fail
      refine (sOk_yes _ _ _ h).mono ?_
      rintro e w1 ⟨rfl, b1⟩
      obtain ⟨f0, f1⟩ := box2 b1 (by simp) (heap_new _ _)
      have u0 := cell_regrown f0
      have u1 := cell_regrown f1
      have C1 : Hid (∀ d' os, Calls Tryd.prog 40 #[.int .i64 n] (grow (redrawn w1 d') os) fun e w'' => e = .returned (.string ⟨(Lib.decDigits n.toNat).toArray⟩) ∧ ∃ p : Regrown, w'' = grow (redrawn w1 p.d) p.os) := fun d' os => Calls.regrown_of (dec_int n _ hk.1 hk.2.1)
      have C2 : Hid (∀ d' os, Calls Tryd.prog 40 #[.int .i64 d] (grow (redrawn w1 d') os) fun e w'' => e = .returned (.string ⟨(Lib.decDigits d.toNat).toArray⟩) ∧ ∃ p : Regrown, w'' = grow (redrawn w1 p.d) p.os) := fun d' os => Calls.regrown_of (dec_int d _ (by omega) (by omega))
      have HB : Hid (Below w.heap.size w w1) := bw_trans b0 b1
      clear b0 b1 h hk
      go_wp2_with fail
      refine wp_region_quiet_below (by kernel_rfl) (by kernel_rfl) ?_
      repeat (first | go_big_quiet_step (first | (go_at_call_of 40 n; exact C1.out _ _) | (go_at_call_of 40 d; exact C2.out _ _)))
      refine wpQuiet_nil ?_
      intro _ hw'
      obtain ⟨⟨dq, osq⟩, hw''⟩ := hw'
      subst hw''
      go_wp2_with fail
      go_ret
      exact ⟨ret_str e.out.symm, bw_trans HB.out (below_regrown w1 dq osq)⟩

theorem iText_any (n d : Int) (a : Addr) (w : World) (hs : Sent a w) (hT : Tab w) :
    Calls Tryd.prog 23 #[.agg #[.int .i64 n, .int .i64 d]] w fun e w' => e = .returned (.string (textV n d)) ∧ Below w.heap.size w w' := by
  have b0 : Below w.heap.size w (w.alloc (.cells #[.int .i64 n, .int .i64 d] 26)) := bw_alloc (bw_refl _) _
  have mB := meth_below
  have mA := meth_above
  cases h : okB n d
  · have e : Hid (textV n d = ⟨#[]⟩) := by unfold textV; rw [h]; rfl
    go_enter Tryd.func23, Tryd.ntmps23
    go_wp2_with (first
      | (go_at_call 33; refine (ratio_bad _ _ a _ ?_ h).mono ?_; exact hs.below b0; rintro e w' ⟨rfl, hb⟩; have hs1 := hs.below (bw_trans b0 hb); unfold Sent at hs1)
      | (go_at_call 32; refine (is_same _ _).mono ?_; rintro e w' ⟨rfl, rfl⟩))
    go_ret
    exact ⟨ret_str e.out.symm, bw_trans b0 hb⟩
  · have hk := (okB_iff n d).1 h
    by_cases hd : d = 1
    · have e : Hid (textV n d = ⟨(Lib.decDigits n.toNat).toArray⟩) := by show _ = _; unfold textV; rw [h]; simp [hd]
      have hdB : (d == 1) = true := by simpa using hd
      clear hd
      go_enter Tryd.func23, Tryd.ntmps23
      go_wp2_with (first
        | (go_at_call 33; refine (ratio_ok _ _ _ h).mono ?_; rintro e w1 ⟨rfl, hb⟩; have hs1 := hs.below (bw_trans b0 hb); unfold Sent at hs1; have B1 := bw_trans b0 hb)
        | (go_at_call 32; refine (is_nil _ _).mono ?_; rintro e w' ⟨rfl, rfl⟩)
        | (go_at_call 74; refine (below_any _ _ _).mono ?_; rintro e w' ⟨rfl, rfl⟩)
        | (go_at_call 73; refine (above_any _ _ _).mono ?_; rintro e w' ⟨rfl, rfl⟩))
      refine (itoa_any n _ hk.1 hk.2.1 ?_).mono ?_
      · exact hT.below (by repeat (first | exact B1 | apply bw_alloc))
      rintro e w2 ⟨rfl, b2⟩
      go_wp2_with fail
      go_ret
      exact ⟨ret_str e.out.symm, bw_trans (by repeat (first | exact B1 | apply bw_alloc)) b2⟩
    · have e : Hid (textV n d = ByteArray.mk (Lib.decDigits n.toNat).toArray ++ ByteArray.mk #[47] ++ ByteArray.mk (Lib.decDigits d.toNat).toArray) := by show _ = _; unfold textV; rw [h]; simp [hd]
      have hdB : (d == 1) = false := by simpa using hd
      have l1 := dec_len n hk.1 hk.2.1
      have l2 := dec_len d (by omega) (by omega)
      clear hd
      go_enter Tryd.func23, Tryd.ntmps23
      go_wp2_with (first
        | (go_at_call 33; refine (ratio_ok _ _ _ h).mono ?_; rintro e w1 ⟨rfl, hb⟩; have hs1 := hs.below (bw_trans b0 hb); unfold Sent at hs1; have B1 := bw_trans b0 hb)
        | (go_at_call 32; refine (is_nil _ _).mono ?_; rintro e w' ⟨rfl, rfl⟩)
        | (go_at_call 74; refine (below_any _ _ _).mono ?_; rintro e w' ⟨rfl, rfl⟩)
        | (go_at_call 73; refine (above_any _ _ _).mono ?_; rintro e w' ⟨rfl, rfl⟩))
      refine (itoa_any n _ hk.1 hk.2.1 ?_).mono ?_
      · exact hT.below (by repeat (first | exact B1 | apply bw_alloc))
      rintro e w2 ⟨rfl, b2⟩
      have B2 := bw_trans (by repeat (first | exact B1 | apply bw_alloc)) b2
      go_wp2_with (first
        | (go_at_call 74; refine (below_any _ _ _).mono ?_; rintro e w' ⟨rfl, rfl⟩))
      refine (itoa_any d _ (by omega) (by omega) ?_).mono ?_
      · exact hT.below (by repeat (first | exact B2 | apply bw_alloc))
      rintro e w3 ⟨rfl, b3⟩
      go_wp2_with fail
      go_ret
      exact ⟨ret_str e.out.symm, bw_trans (by repeat (first | exact B2 | apply bw_alloc)) b3⟩
end Go.Proofs.YtebjdfpfbcbhnaaDoor
