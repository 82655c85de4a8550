/-
  OUR OWN TEXT. The specification's LoopSize, by contract, at every points.
-/
import Derived.Test.YtfnhbdanfnpdeaaDoorSOk
import Derived.Test.YtfnhbdanfnpdeaaDoorLoopX
namespace Go.Proofs.YtfnhbdanfnpdeaaDoor
open Go.RowKit Go.Sort

theorem okV_pt {pts : List P2} (h : okV pts = true) {i : Nat} (hi : i < pts.length) : ptB (ptAt pts i).1 (ptAt pts i).2 = true := (sgP_pt (((okV_iff pts).1 h).seg i hi)).1
theorem sCross_raw (a b c : P2) (ha : ptB a.1 a.2 = true) (hb : ptB b.1 b.2 = true) (hc : ptB c.1 c.2 = true) (w : World) :
    Calls Tryd.prog 75 #[.agg #[.int .i64 a.1, .int .i64 a.2], .agg #[.int .i64 b.1, .int .i64 b.2], .agg #[.int .i64 c.1, .int .i64 c.2]] w fun e w' => e = .returned (.int .i64 (crs a.1 a.2 b.1 b.2 c.1 c.2)) ∧ Below w.heap.size w w' := sCross_any _ _ _ _ _ _ w ha hb hc
theorem fan_bd {pts : List P2} (h : okV pts = true) (k : Nat) (hk : k < pts.length) : -(162 * k) ≤ fan pts k ∧ fan pts k ≤ 162 * k := by
  induction k with
  | zero => simp [fan]
  | succ k ih =>
    have i := ih (by omega)
    cases k with
    | zero => simp [fan]
    | succ k =>
      have e : fan pts (k + 1 + 1) = fan pts (k + 1) + triE pts (k + 1) := rfl
      have b := crs_bd (okV_pt h (i := 0) (by omega)) (okV_pt h (i := k + 1) (by omega)) (okV_pt h (i := k + 1 + 1) hk)
      have b' : -162 ≤ triE pts (k + 1) ∧ triE pts (k + 1) ≤ 162 := b
      rw [e]; omega
end Go.Proofs.YtfnhbdanfnpdeaaDoor
