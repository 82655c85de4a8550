/-
  OUR OWN TEXT. impl.FracCmp by contract, at every two fractions; the one condition: errNoFrac holds a pointer to an errors.errorString.
-/
import Derived.Test.YtmjbfocghlhecaaDoorImpl
namespace Go.Proofs.YtmjbfocghlhecaaDoor
open Go.RowKit

theorem fracCmp_right (n d m b : Int) (a : Addr) (w : World) (hs : Sent a w) (h : okB n d = true) (h2 : okB m b = false) :
    Calls Tryd.prog 32 #[.agg #[.int .i64 n, .int .i64 d], .agg #[.int .i64 m, .int .i64 b]] w fun e w' => e = .returned (.int .i64 2) ∧ Below w.heap.size w w' := by
  have b0 : Below w.heap.size w ((w.alloc (.cells #[.int .i64 n, .int .i64 d] 34)).alloc (.cells #[.int .i64 m, .int .i64 b] 34)) := bw_alloc (bw_alloc (bw_refl _) _) _
  go_enter Tryd.func32, Tryd.ntmps32
  go_wp2_with fail
  refine (ratio_ok _ _ _ h).mono ?_
  rintro e w1 ⟨rfl, hb⟩
  have hs1 := hs.below (bw_trans b0 hb)
  obtain ⟨hc1, hf1⟩ := bcell hb
  have HB : Hid (Below w.heap.size w w1) := bw_trans b0 hb
  have hs2 := hs1
  unfold Sent at hs1
  go_wp2_with (go_at_call 63; refine (is_nil _ _).mono ?_; rintro e w' ⟨rfl, rfl⟩)
  refine (ratio_bad _ _ a _ hs2 h2).mono ?_
  rintro e w2 ⟨rfl, hb2⟩
  have hs3 := hs2.below hb2
  unfold Sent at hs3
  go_wp2_with (go_at_call 63; refine (is_same _ _).mono ?_; rintro e w' ⟨rfl, rfl⟩)
  go_ret
  exact ⟨rfl, bw_trans HB.out hb2⟩

theorem fracCmp_both (n d m b : Int) (a : Addr) (w : World) (hs : Sent a w) (h : okB n d = true) (h2 : okB m b = true) :
    Calls Tryd.prog 32 #[.agg #[.int .i64 n, .int .i64 d], .agg #[.int .i64 m, .int .i64 b]] w fun e w' => e = .returned (.int .i64 (cmpI (n * b) (m * d))) ∧ Below w.heap.size w w' := by
  have b0 : Below w.heap.size w ((w.alloc (.cells #[.int .i64 n, .int .i64 d] 34)).alloc (.cells #[.int .i64 m, .int .i64 b] 34)) := bw_alloc (bw_alloc (bw_refl _) _) _
  have k1 := (okB_iff n d).1 h
  have k2 := (okB_iff m b).1 h2
  go_enter Tryd.func32, Tryd.ntmps32
  go_wp2_with fail
  refine (ratio_ok _ _ _ h).mono ?_
  rintro e w1 ⟨rfl, hb⟩
  have hs1 := hs.below (bw_trans b0 hb)
  obtain ⟨hc1, hf1⟩ := bcell hb
  have HB : Hid (Below w.heap.size w w1) := bw_trans b0 hb
  have hs2 := hs1
  unfold Sent at hs1
  go_wp2_with (go_at_call 63; refine (is_nil _ _).mono ?_; rintro e w' ⟨rfl, rfl⟩)
  refine (ratio_ok _ _ _ h2).mono ?_
  rintro e w2 ⟨rfl, hb2⟩
  have hs3 := hs2.below hb2
  unfold Sent at hs3
  have HB2 : Hid (Below w.heap.size w w2) := bw_trans HB.out hb2
  clear hb hb2 hc1 hf1 hs1 HB
  go_wp2_with (go_at_call 63; refine (is_nil _ _).mono ?_; rintro e w' ⟨rfl, rfl⟩)
  refine (cross_any n d m b _ k1.1 k1.2.1 (by omega) k2.2.2.2.1).mono ?_
  rintro e w3 ⟨rfl, hb3⟩
  go_wp2_with fail
  refine (cross_any m b n d _ k2.1 k2.2.1 (by omega) k1.2.2.2.1).mono ?_
  rintro e w4 ⟨rfl, hb4⟩
  go_wp2_with fail
  refine (compare_any _ _ _).mono ?_
  rintro e w5 ⟨rfl, hb5⟩
  go_wp2_with fail
  go_ret
  exact ⟨rfl, bw_trans (bw_trans (bw_trans HB2.out hb3) hb4) hb5⟩

/-- FracCmp at every two fractions. -/
theorem fracCmp_any (n d m b : Int) (a : Addr) (w : World) (hs : Sent a w) :
    Calls Tryd.prog 32 #[.agg #[.int .i64 n, .int .i64 d], .agg #[.int .i64 m, .int .i64 b]] w fun e w' => e = .returned (.int .i64 (cmpV n d m b)) ∧ Below w.heap.size w w' := by
  unfold cmpV
  cases h : okB n d
  · exact fracCmp_left n d m b a w hs h
  · cases h2 : okB m b
    · exact fracCmp_right n d m b a w hs h h2
    · exact fracCmp_both n d m b a w hs h h2
/-- FracOf at every two numbers. -/
theorem fracOf_any (n d : Int) (a : Addr) (w : World) (hs : Sent a w) :
    Calls Tryd.prog 31 #[.int .i64 n, .int .i64 d] w fun e w' => e = .returned (.tuple #[.agg #[.int .i64 (ofN n d), .int .i64 (ofD n d)], .bool (inB n d)]) ∧ Below w.heap.size w w' := by
  unfold ofN ofD
  cases h : inB n d
  · exact fracOf_bad n d a w hs h
  · exact fracOf_ok n d a w hs h
end Go.Proofs.YtmjbfocghlhecaaDoor
