/-
  OUR OWN TEXT. The specification's reader of drawn bytes: opened over any bytes, a pick of n (1 to 1,000,000) answers a number from 0 to n - 1, whatever the bytes are.
-/
import Derived.Test.YtfibkhepjpehpaaDoorBoxes
import Derived.Deep.DeepCutAuto
import Derived.OpenShut
namespace Go.Proofs.YtfibkhepjpehpaaDoor
open Go.RowKit

/-- What is known of a slice of integers that came in. -/
def IsRow (k : IntKind) (w : World) (a : Option Addr) (len cap : Nat) (zs : List Int) : Prop :=
  (a = none ∧ len = 0 ∧ cap = 0 ∧ zs = []) ∨
  ∃ x, a = some x ∧ len ≤ cap ∧ cap ≤ maxLen ∧ zs.length = cap ∧ (∀ i, i < zs.length → w.cell? (x.add i) = some (.int k (zs.getD i 0))) ∧ ∀ n ∈ zs, (Lit.int k n).wf = true

/-- The bytes behind a reader at block r: none, or so many cells at one place below it, each a byte. -/
def Bytes (w : World) (r : Nat) (a : Option Addr) (len : Nat) : Prop :=
  len = 0 ∨ ∃ (b o : Nat) (z : Nat → Int), a = some ⟨b, o, none⟩ ∧ b < r ∧ b < w.heap.size ∧ ∀ i, i < len → w.cell? ⟨b, o + i, none⟩ = some (.int .u8 (z i)) ∧ 0 ≤ z i ∧ z i ≤ 255
/-- A slice of bytes that came in, under a reader that is opened over its first ones. -/
theorem IsRow.bytes {w : World} {a : Option Addr} {len cap : Nat} {zs : List Int} (h : IsRow .u8 w a len cap zs) (n : Nat) (hn : n ≤ len) : Bytes w w.heap.size a n := by
  rcases h with ⟨rfl, rfl, rfl, rfl⟩ | ⟨x, rfl, hl, hm, hz, hc, hw⟩
  · exact .inl (by omega)
  · by_cases h0 : n = 0
    · exact .inl h0
    · obtain ⟨b, o, rfl, hcell⟩ := ints_at hc (by omega)
      have hb : b < w.heap.size := World.block_lt_of_cell? _ _ (hcell 0 (by omega))
      refine .inr ⟨b, o, fun i => zs.getD i 0, rfl, hb, hb, fun i hi => ⟨hcell i (by omega), ?_⟩⟩
      have hi' : i < zs.length := by omega
      have := bounds_u8 (hw zs[i] (List.getElem_mem hi'))
      simpa [List.getD, hi'] using this
theorem IsRow.shape {w : World} {k : IntKind} {a : Option Addr} {len cap : Nat} {zs : List Int} (h : IsRow k w a len cap zs) : len ≤ cap ∧ cap ≤ 9223372036854775807 ∧ (len = 0 ∨ ∃ x, a = some x) := by
  rcases h with ⟨rfl, rfl, rfl, rfl⟩ | ⟨x, rfl, hl, hm, _, _, _⟩
  · exact ⟨Nat.le_refl _, by omega, .inl rfl⟩
  · unfold maxLen at hm; exact ⟨hl, hm, .inr ⟨x, rfl⟩⟩

theorem xor_nat (a b : Nat) (ha : a < 4611686018427387904) (hb : b < 4611686018427387904) : bits .xor .i64 (a : Int) (b : Int) = ((a ^^^ b : Nat) : Int) := by
  have hx : a ^^^ b < 2 ^ 62 := Nat.xor_lt_two_pow (by omega) (by omega)
  show IntKind.i64.wrap ((BitVec.ofInt 64 (a : Int) ^^^ BitVec.ofInt 64 (b : Int)).toNat : Int) = _
  rw [BitVec.toNat_xor, ofInt_u64 a (by omega), ofInt_u64 b (by omega)]
  simp [IntKind.wrap, IntKind.bits, IntKind.signed]
  omega
theorem xor_pos (x y : Int) (hx : 0 ≤ x) (hy : 0 ≤ y) (hx2 : x < 4611686018427387904) (hy2 : y < 4611686018427387904) : 0 ≤ bits .xor .i64 x y := by
  obtain ⟨a, rfl⟩ := Int.eq_ofNat_of_zero_le hx
  obtain ⟨b, rfl⟩ := Int.eq_ofNat_of_zero_le hy
  rw [xor_nat a b (by omega) (by omega)]
  omega
theorem tmod_bd (x n : Int) (hx : 0 ≤ x) (hn : 1 ≤ n) : 0 ≤ x.tmod n ∧ x.tmod n < n := by
  rw [Int.tmod_eq_emod_of_nonneg hx]
  exact ⟨Int.emod_nonneg _ (by omega), Int.emod_lt_of_pos _ (by omega)⟩




end Go.Proofs.YtfibkhepjpehpaaDoor
