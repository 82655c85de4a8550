/-
  OUR OWN TEXT. What the specification draws for the laws of turns, by contract.
-/
import Derived.Test.YtfdnadiliedikaaDoorDrawPath
namespace Go.Proofs.YtfdnadiliedikaaDoor
open Go.RowKit Go.Sort

set_option maxRecDepth 100000 in
set_option maxHeartbeats 4000000 in
theorem drawTurns_any {a : Option Addr} {len0 cap : Nat} {zs : List Int} (w0 w : World) (h : IsRow .u8 w0 a len0 cap zs) (hb : Below w0.heap.size w0 w) :
    Calls Tryd.prog 19 #[.slice a len0 cap] w (DrawnC 0 20 w) := by
  go_enter Tryd.func19, Tryd.ntmps19
  go_wp2_with fail
  refine (open_rd w0 _ h hb).mono ?_
  rintro e w1 ⟨len, rfl, R, hb1⟩
  have z1 := hb1.size
  have zr := R.lt
  go_wp2_with fail
  refine (l72Path_any 0 a len cap _ _ (by omega) R).mono ?_
  rintro e w2 ⟨g, c, l, rfl, hl, hPB, hlc, hb2, O⟩
  go_wp2_with fail
  go_ret
  exact ⟨g, c, l, rfl, Nat.zero_le _, hl, hPB, hlc, hb2, hb1.trans (O.below' (B := w.heap.size) (Nat.le_refl _) (by omega))⟩
end Go.Proofs.YtfdnadiliedikaaDoor
