/-
  OUR OWN TEXT. What hands the iterator over the edges back; that it stops.
-/
import Derived.Test.YtfdnadiliedikaaDoorEdges
namespace Go.Proofs.YtfdnadiliedikaaDoor
open Go.RowKit Go.Shelf
attribute [local go_sem] Oper.semAt_some

/-- What comes up: a place, and the edge there. -/
def encE (pts : List P2) (x : Fin pts.length) : Array Value := #[.int .i64 (x.1 : Int), .agg #[.int .i64 (ptAt pts x.1).1, .int .i64 (ptAt pts x.1).2, .int .i64 (ptAt pts (nxt pts x.1)).1, .int .i64 (ptAt pts (nxt pts x.1)).2]]
theorem Pts.below {n₀ : Nat} {W W' : World} {a : Option Addr} {len : Nat} {l : List P2} (h : Pts n₀ W a len l) (k : Below n₀ W W') : Pts n₀ W' a len l := by
  refine ⟨h.1, h.2.imp id ?_⟩
  rintro ⟨b, off, rfl, hb, hc⟩
  exact ⟨b, off, rfl, hb, fun j hj => ⟨(k.cell (p := ⟨b, off + j * 2, none⟩) hb).trans (hc j hj).1, (k.cell (p := ⟨b, off + j * 2 + 1, none⟩) hb).trans (hc j hj).2⟩⟩
theorem Pts.grow {n₀ n₁ : Nat} {W : World} {a : Option Addr} {len : Nat} {l : List P2} (h : Pts n₀ W a len l) (k : n₀ ≤ n₁) : Pts n₁ W a len l :=
  ⟨h.1, h.2.imp id fun ⟨b, off, e, hb, hc⟩ => ⟨b, off, e, by omega, hc⟩⟩
end Go.Proofs.YtfdnadiliedikaaDoor
