/-
  OUR OWN TEXT. Words for the iterator over the edges of points: what a round keeps.
-/
import Derived.RangeFuncNested
import Derived.RangeFuncBox
import Derived.RangeFuncBound
import Derived.RangeFuncCalls
import Derived.RangeFuncLeaves
import Derived.Shelf.Abstract
import Derived.Shelf.RegionOpen
import Derived.WalkKit
import Derived.OwnWalkIn
import Derived.TacticsInMore
import Derived.LoopNIn
import Derived.LoopIn
import Derived.Test.YtfdnadiliedikaaDoorLoopM2
import Derived.Test.YtfdnadiliedikaaDoorBw
namespace Go.Proofs.YtfdnadiliedikaaDoor
open Go.RowKit Go.Shelf
attribute [local go_sem] Oper.semAt_some

theorem wrap_small {x : Int} (h0 : -1000000000000 ≤ x) (h1 : x ≤ 1000000000000) : IntKind.i64.wrap x = x := by
  simp [IntKind.wrap, IntKind.bits, IntKind.signed]; omega
/-- The slice holds the points, in a block below n. -/
def Pts (n : Nat) (W : World) (a : Option Addr) (len : Nat) (l : List P2) : Prop :=
  l.length = len ∧ (len = 0 ∨ ∃ b off, a = some ⟨b, off, none⟩ ∧ b < n ∧ ∀ j, j < len → W.cell? ⟨b, off + j * 2, none⟩ = some (.int .i64 (ptAt l j).1) ∧ W.cell? ⟨b, off + j * 2 + 1, none⟩ = some (.int .i64 (ptAt l j).2))
def sgv (a b : P2) : Value := .agg #[.int .i64 a.1, .int .i64 a.2, .int .i64 b.1, .int .i64 b.2]
def upto (n : Nat) (k : Nat) : List (Fin n) := (List.finRange n).take k

theorem upto_succ {n k : Nat} (h : k < n) : upto n (k + 1) = upto n k ++ [⟨k, h⟩] := by
  unfold upto; rw [List.take_add_one]; simp [h]
theorem upto_all (n : Nat) : upto n n = List.finRange n := by
  unfold upto; exact List.take_of_length_le (by simp)
/-- What a round keeps: all that lay below n₀, and the box B. -/
def KB (n₀ B : Nat) (W W' : World) : Prop := Below n₀ W W' ∧ W'.heap[B]? = W.heap[B]?
theorem KB.refl (n₀ B : Nat) (W : World) : KB n₀ B W W := ⟨Below.refl _ _, rfl⟩
theorem KB.trans {n₀ B : Nat} {W W' W'' : World} (h : KB n₀ B W W') (k : KB n₀ B W' W'') : KB n₀ B W W'' := ⟨h.1.trans k.1, k.2.trans h.2⟩
theorem KB.alloc {n₀ B : Nat} {W W' : World} (h : KB n₀ B W W') (hn : n₀ ≤ W'.heap.size) (hB : B < W'.heap.size) (o : Obj) : KB n₀ B W (W'.alloc o) := ⟨h.1.alloc hn o, (Below.heap_alloc W' o B hB).trans h.2⟩
theorem KB.drew {n₀ B : Nat} {W W' : World} (h : KB n₀ B W W') : KB n₀ B W W'.drew := ⟨h.1.drew, h.2⟩
theorem KB.cell {n₀ B : Nat} {W W' : World} (h : KB n₀ B W W') (o : Nat) : W'.cell? ⟨B, o, none⟩ = W.cell? ⟨B, o, none⟩ := World.cell?_of_block h.2
theorem KB.setCell {n₀ B : Nat} {W W' : World} (h : KB n₀ B W W') {p : Addr} (hp : n₀ ≤ p.block) (hB : B ≠ p.block) (v : Value) : KB n₀ B W (W'.setCell p v) := ⟨h.1.setCell hp v, (Below.heap_setCell _ _ _ B hB).trans h.2⟩
theorem KB_t {n₀ B : Nat} : ∀ {X Y Z : World}, KB n₀ B X Y → KB n₀ B Y Z → KB n₀ B X Z := fun h k => h.trans k
theorem KB_b {n₀ B : Nat} {w : World} (hn : n₀ ≤ w.heap.size) (hB : B < w.heap.size) : ∀ (W : World) (l : Nat) (o o' : Obj), w.heap.size ≤ l → W.heap[l]? = some o → o.isCells = false → o.isWalk = false → KB n₀ B W (W.putObj l o') :=
  fun W l o o' hl ho h1 h2 => ⟨belowK_b hn W l o o' hl ho h1 h2, World.putObj_heap_other (by omega)⟩
theorem KB.of_below {n₀ B : Nat} {W W' : World} (h : Below W.heap.size W W') (hn : n₀ ≤ W.heap.size) (hB : B < W.heap.size) : KB n₀ B W W' := ⟨h.mono hn, h.block B hB⟩

end Go.Proofs.YtfdnadiliedikaaDoor
