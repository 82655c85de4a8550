/-
  OUR OWN TEXT. The exact laws of FracOk, FracOf and FracCmp, walked: called at any argument, in any world that holds the sentinel, each answers true and writes nothing that was there.
-/
import Derived.Test.YtebjdfpfbcbhnaaDoorSpec
namespace Go.Proofs.YtebjdfpfbcbhnaaDoor
open Go.RowKit

theorem toFrac_any (n d : Int) (w : World) :
    Calls Tryd.prog 25 #[.agg #[.int .i64 n, .int .i64 d]] w fun e w' => e = .returned (.agg #[.int .i64 n, .int .i64 d]) ∧ Below w.heap.size w w' := by
  go_enter Tryd.func25, Tryd.ntmps25
  go_wp2
  exact bodyPost_ret (v := .agg #[.int .i64 n, .int .i64 d]) (by simp [results, Tryd.results25, go_sem]) rfl ⟨rfl, by repeat (first | exact bw_refl _ | apply bw_drewN | apply bw_drew | apply bw_alloc | refine bw_set ?_ (by simp) _)⟩
theorem eqFrac_same (n d : Int) (w : World) :
    Calls Tryd.prog 26 #[.agg #[.int .i64 n, .int .i64 d], .agg #[.int .i64 n, .int .i64 d]] w fun e w' => e = .returned (.bool true) ∧ Below w.heap.size w w' := by
  go_enter Tryd.func26, Tryd.ntmps26
  go_wp2
  go_ret
  exact ⟨rfl, by repeat (first | exact bw_refl _ | apply bw_drewN | apply bw_drew | apply bw_alloc | refine bw_set ?_ (by simp) _)⟩

theorem exOk_walk (n d : Int) (_hn : (Lit.int .i64 n).wf = true) (_hd : (Lit.int .i64 d).wf = true) (a : Addr) (w : World) (hs : Sent a w) :
    Calls Tryd.prog 9 #[.agg #[.int .i64 n, .int .i64 d]] w fun e w' => e = .returned (.bool true) ∧ Below w.heap.size w w' := by
  have b0 : Below w.heap.size w (w.alloc (.cells #[.int .i64 n, .int .i64 d] 37)) := bw_alloc (bw_refl _) _
  have hne : (okB n d != okB n d) = false := by simp
  go_enter Tryd.func9, Tryd.ntmps9
  go_wp2_with fail
  refine (toFrac_any _ _ _).mono ?_
  rintro e w1 ⟨rfl, hb1⟩
  go_wp2_with fail
  refine (sOk_any _ _ _).mono ?_
  rintro e w2 ⟨rfl, hb2⟩
  have B2 := bw_trans hb1 hb2
  obtain ⟨hc, hf⟩ := bcell B2
  go_wp2_with fail
  refine (toFrac_any _ _ _).mono ?_
  rintro e w3 ⟨rfl, hb3⟩
  have B3 := bw_trans (bw_trans b0 B2) hb3
  go_wp2_with fail
  refine (fracOk_any _ _ a _ (hs.below B3)).mono ?_
  rintro e w4 ⟨rfl, hb4⟩
  have B4 := bw_trans B3 hb4
  clear hb1 hb2 hb3 hb4 hc hf B2 B3
  go_wp2_with fail
  all_goals go_ret
  all_goals exact ⟨rfl, B4⟩
end Go.Proofs.YtebjdfpfbcbhnaaDoor
