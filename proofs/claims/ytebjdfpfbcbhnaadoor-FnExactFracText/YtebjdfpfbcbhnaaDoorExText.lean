/-
  OUR OWN TEXT. The exact law of FracText, walked: called at any fraction it answers true and writes nothing that was there.
-/
import Derived.Test.YtebjdfpfbcbhnaaDoorText
import Derived.Test.YtebjdfpfbcbhnaaDoorEx
namespace Go.Proofs.YtebjdfpfbcbhnaaDoor
open Go.RowKit

theorem exText_walk (n d : Int) (_hn : (Lit.int .i64 n).wf = true) (_hd : (Lit.int .i64 d).wf = true) (a : Addr) (w : World) (hs : Sent a w) (hT : Tab w) :
    Calls Tryd.prog 12 #[.agg #[.int .i64 n, .int .i64 d]] w fun e w' => e = .returned (.bool true) ∧ Below w.heap.size w w' := by
  have b0 : Below w.heap.size w (w.alloc (.cells #[.int .i64 n, .int .i64 d] 37)) := bw_alloc (bw_refl _) _
  go_enter Tryd.func12, Tryd.ntmps12
  go_wp2_with fail
  refine (toFrac_any _ _ _).mono ?_
  rintro e w1 ⟨rfl, hb1⟩
  go_wp2_with fail
  refine (sText_any _ _ _).mono ?_
  rintro e w2 ⟨rfl, hb2⟩
  have B2 := bw_trans hb1 hb2
  obtain ⟨hc, hf⟩ := bcell B2
  go_wp2_with fail
  refine (toFrac_any _ _ _).mono ?_
  rintro e w3 ⟨rfl, hb3⟩
  have B3 := bw_trans (bw_trans b0 B2) hb3
  go_wp2_with fail
  refine (iText_any _ _ a _ (hs.below B3) (hT.below B3)).mono ?_
  rintro e w4 ⟨rfl, hb4⟩
  have B4 := bw_trans B3 hb4
  clear hb1 hb2 hb3 hb4 hc hf B2 B3
  go_wp2_with fail
  go_ret
  exact ⟨rfl, B4⟩
end Go.Proofs.YtebjdfpfbcbhnaaDoor
