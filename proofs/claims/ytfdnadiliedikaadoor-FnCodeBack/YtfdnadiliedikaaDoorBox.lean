/-
  OUR OWN TEXT. The specification's drawn loops of four points, five, or six, by contract: whatever the bytes are, points of our own memory are handed back; nothing that was there is written.
-/
import Derived.Test.YtfdnadiliedikaaDoorDrawPt
import Derived.Test.YtfdnadiliedikaaDoorEdgeK
import Derived.OwnWalk
import Derived.Deep.RegionHeld3
namespace Go.Proofs.YtfdnadiliedikaaDoor
open Go.RowKit

def ptCells (l : List P2) : List Value := l.flatMap fun p => [.int .i64 p.1, .int .i64 p.2]
theorem ptCells_len (l : List P2) : (ptCells l).length = l.length * 2 := by
  induction l with
  | nil => rfl
  | cons p l ih => simp only [ptCells, List.flatMap_cons, List.length_append, List.length_cons, List.length_nil] at *; omega
theorem own_lit {W : World} {base g n c : Nat} {cur : Array Value} {l : List P2} (h : W.heap[g]? = some (.cells cur 42 (0, 0))) (hb : base ≤ g) (hs : cur.size = c * 2) (hn : n ≤ c) (hc : c ≤ maxLen) (hl : l.length = n) (e : cur.toList.take (n * 2) = ptCells l) :
    W.ownsRow base 42 2 (.slice (some ⟨g, 0, none⟩) n c) n (ptCells l) :=
  ⟨by rw [ptCells_len, hl], .inr ⟨g, c, cur, rfl, hb, h, hn, hc, hs, e⟩⟩
/-- What a drawn loop is. -/
def Drawn (base r : Nat) (a : Option Addr) (len cap k hi : Nat) (w : World) (e : Ending) (w' : World) : Prop :=
  ∃ (g n c : Nat) (l : List P2) (k' : Nat), e = .returned (.slice (some ⟨g, 0, none⟩) n c) ∧ 3 ≤ n ∧ n ≤ hi ∧ l.length = n ∧ w'.ownsRow base 42 2 (.slice (some ⟨g, 0, none⟩) n c) n (ptCells l) ∧ k' ≤ k ∧ Rd w' r k' a len cap ∧ Only r w w'
end Go.Proofs.YtfdnadiliedikaaDoor
