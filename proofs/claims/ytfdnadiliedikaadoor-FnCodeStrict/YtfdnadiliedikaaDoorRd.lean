/-
  OUR OWN TEXT. The specification's reader of drawn bytes: opened over any bytes, a pick of n (1 to 1,000,000) answers a number from 0 to n - 1, whatever the bytes are.
-/
import Derived.Test.YtfdnadiliedikaaDoorBoxes
import Derived.Deep.DeepCutAuto
import Derived.OpenShut
namespace Go.Proofs.YtfdnadiliedikaaDoor
open Go.RowKit

/-- What is known of a slice of integers that came in. -/
def IsRow (k : IntKind) (w : World) (a : Option Addr) (len cap : Nat) (zs : List Int) : Prop :=
  (a = none ∧ len = 0 ∧ cap = 0 ∧ zs = []) ∨
  ∃ x, a = some x ∧ len ≤ cap ∧ cap ≤ maxLen ∧ zs.length = cap ∧ (∀ i, i < zs.length → w.cell? (x.add i) = some (.int k (zs.getD i 0))) ∧ ∀ n ∈ zs, (Lit.int k n).wf = true

/-- The bytes behind a reader at block r: none, or so many cells at one place below it, each a byte. -/
def Bytes (w : World) (r : Nat) (a : Option Addr) (len : Nat) : Prop :=
  len = 0 ∨ ∃ (b o : Nat) (z : Nat → Int), a = some ⟨b, o, none⟩ ∧ b < r ∧ b < w.heap.size ∧ ∀ i, i < len → w.cell? ⟨b, o + i, none⟩ = some (.int .u8 (z i)) ∧ 0 ≤ z i ∧ z i ≤ 255
/-- A slice of bytes that came in, under a reader that is opened over its first ones. -/
theorem IsRow.bytes {w : World} {a : Option Addr} {len cap : Nat} {zs : List Int} (h : IsRow .u8 w a len cap zs) (n : Nat) (hn : n ≤ len) : Bytes w w.heap.size a n := by
  rcases h with ⟨rfl, rfl, rfl, rfl⟩ | ⟨x, rfl, hl, hm, hz, hc, hw⟩
  · exact .inl (by omega)
  · by_cases h0 : n = 0
    · exact .inl h0
    · obtain ⟨b, o, rfl, hcell⟩ := ints_at hc (by omega)
      have hb : b < w.heap.size := World.block_lt_of_cell? _ _ (hcell 0 (by omega))
      refine .inr ⟨b, o, fun i => zs.getD i 0, rfl, hb, hb, fun i hi => ⟨hcell i (by omega), ?_⟩⟩
      have hi' : i < zs.length := by omega
      have := bounds_u8 (hw zs[i] (List.getElem_mem hi'))
      simpa [List.getD, hi'] using this
theorem IsRow.shape {w : World} {k : IntKind} {a : Option Addr} {len cap : Nat} {zs : List Int} (h : IsRow k w a len cap zs) : len ≤ cap ∧ cap ≤ 9223372036854775807 ∧ (len = 0 ∨ ∃ x, a = some x) := by
  rcases h with ⟨rfl, rfl, rfl, rfl⟩ | ⟨x, rfl, hl, hm, _, _, _⟩
  · exact ⟨Nat.le_refl _, by omega, .inl rfl⟩
  · unfold maxLen at hm; exact ⟨hl, hm, .inr ⟨x, rfl⟩⟩

theorem xor_nat (a b : Nat) (ha : a < 4611686018427387904) (hb : b < 4611686018427387904) : bits .xor .i64 (a : Int) (b : Int) = ((a ^^^ b : Nat) : Int) := by
  have hx : a ^^^ b < 2 ^ 62 := Nat.xor_lt_two_pow (by omega) (by omega)
  show IntKind.i64.wrap ((BitVec.ofInt 64 (a : Int) ^^^ BitVec.ofInt 64 (b : Int)).toNat : Int) = _
  rw [BitVec.toNat_xor, ofInt_u64 a (by omega), ofInt_u64 b (by omega)]
  simp [IntKind.wrap, IntKind.bits, IntKind.signed]
  omega
theorem xor_pos (x y : Int) (hx : 0 ≤ x) (hy : 0 ≤ y) (hx2 : x < 4611686018427387904) (hy2 : y < 4611686018427387904) : 0 ≤ bits .xor .i64 x y := by
  obtain ⟨a, rfl⟩ := Int.eq_ofNat_of_zero_le hx
  obtain ⟨b, rfl⟩ := Int.eq_ofNat_of_zero_le hy
  rw [xor_nat a b (by omega) (by omega)]
  omega
theorem tmod_bd (x n : Int) (hx : 0 ≤ x) (hn : 1 ≤ n) : 0 ≤ x.tmod n ∧ x.tmod n < n := by
  rw [Int.tmod_eq_emod_of_nonneg hx]
  exact ⟨Int.emod_nonneg _ (by omega), Int.emod_lt_of_pos _ (by omega)⟩

theorem pick_nil (n p : Int) (a : Option Addr) (cap r : Nat) (w : World) (hn : 1 ≤ n) (hp : 0 ≤ p) (hp2 : p ≤ 1000000)
    (h0 : w.cell? ⟨r, 0, none⟩ = some (.slice a 0 cap)) (h1 : w.cell? ⟨r, 1, none⟩ = some (.int .i64 p)) (hf : w.frozen? ⟨r, 1, none⟩ = false) :
    Calls Tryd.prog 44 #[.pointer (some ⟨r, 0, none⟩), .int .i64 n] w fun e w' => e = .returned (.int .i64 0) ∧ w' = w.setCell ⟨r, 1, none⟩ (.int .i64 (p + 1)) := by
  go_enter Tryd.func44, Tryd.ntmps44
  go_wp2
  go_ret
  exact ⟨rfl, rfl⟩

theorem pick_in (n : Int) (k len cap r b o : Nat) (z : Int) (w : World) (hn : 1 ≤ n) (hk : k < len) (hp2 : k ≤ 1000000) (hbr : b ≠ r) (hz0 : 0 ≤ z) (hz1 : z ≤ 255)
    (h0 : w.cell? ⟨r, 0, none⟩ = some (.slice (some ⟨b, o, none⟩) len cap)) (h1 : w.cell? ⟨r, 1, none⟩ = some (.int .i64 k)) (hf : w.frozen? ⟨r, 1, none⟩ = false)
    (hc : w.cell? ⟨b, o + k, none⟩ = some (.int .u8 z)) :
    Calls Tryd.prog 44 #[.pointer (some ⟨r, 0, none⟩), .int .i64 n] w fun e w' => e = .returned (.int .i64 (z % n)) ∧ w' = w.setCell ⟨r, 1, none⟩ (.int .i64 (k + 1)) := by
  have hn1 : ¬ n < 1 := by omega
  have hl0 : ((len : Int) == 0) = false := by simp; omega
  have hn0 : (n == 0) = false := by simp; omega
  go_enter Tryd.func44, Tryd.ntmps44
  go_wp2
  go_ret
  exact ⟨rfl, rfl⟩

theorem pick_out (n : Int) (k len cap r b o : Nat) (z1 z2 : Int) (w : World) (hn : 1 ≤ n) (hl : 1 ≤ len) (hk : len ≤ k) (hp2 : k ≤ 1000000) (hbr : b ≠ r) (hz1 : 0 ≤ z1) (hz2 : z1 ≤ 255) (hz3 : 0 ≤ z2) (hz4 : z2 ≤ 255)
    (h0 : w.cell? ⟨r, 0, none⟩ = some (.slice (some ⟨b, o, none⟩) len cap)) (h1 : w.cell? ⟨r, 1, none⟩ = some (.int .i64 k)) (hf : w.frozen? ⟨r, 1, none⟩ = false)
    (hc1 : w.cell? ⟨b, o + k % len, none⟩ = some (.int .u8 z1)) (hc2 : w.cell? ⟨b, o + (k * 7 + 3) % len, none⟩ = some (.int .u8 z2)) :
    Calls Tryd.prog 44 #[.pointer (some ⟨r, 0, none⟩), .int .i64 n] w fun e w' => (∃ v, e = .returned (.int .i64 v) ∧ 0 ≤ v ∧ v < n) ∧ ∃ m, w' = (w.setCell ⟨r, 1, none⟩ (.int .i64 (k + 1))).drewN m := by
  have hn1 : ¬ n < 1 := by omega
  have hl0 : ((len : Int) == 0) = false := by simp; omega
  have hn0 : (n == 0) = false := by simp; omega
  have hlk : ¬ ((k : Int) < (len : Int)) := by omega
  have hm1 : k % len < len := Nat.mod_lt _ (by omega)
  have hm2 : (k * 7 + 3) % len < len := Nat.mod_lt _ (by omega)
  have hd1 : k / len ≤ k := Nat.div_le_self _ _
  have hlI : (1 : Int) ≤ (len : Int) := by omega
  have hm3 : 0 ≤ (k : Int) % (len : Int) := Int.emod_nonneg _ (by omega)
  have hm4 : (k : Int) % (len : Int) < (len : Int) := Int.emod_lt_of_pos _ (by omega)
  have hm5 : 0 ≤ ((k : Int) * 7 + 3) % (len : Int) := Int.emod_nonneg _ (by omega)
  have hm6 : ((k : Int) * 7 + 3) % (len : Int) < (len : Int) := Int.emod_lt_of_pos _ (by omega)
  have hd2 : 0 ≤ (k : Int) / (len : Int) := Int.ediv_nonneg (by omega) (by omega)
  have hd3 : (k : Int) / (len : Int) ≤ (k : Int) := Int.ediv_le_self _ (by omega)
  go_enter Tryd.func44, Tryd.ntmps44
  go_wp2
  go_quiet (fail)
  go_wp2
  go_ret
  have hx := xor_pos (z1 * 131 + z2 * 1117 + (k : Int) * 29 + (k : Int) / (len : Int) * 53) ((z1 * 131 + z2 * 1117 + (k : Int) * 29 + (k : Int) / (len : Int) * 53) / 64) (by omega) (by omega) (by omega) (by omega)
  exact ⟨⟨_, rfl, tmod_bd _ _ hx hn⟩, _, rfl⟩

/-- A pick of n, at whatever bytes, wherever the reader stands: a number from 0 to n - 1; the reader is one place further; nothing else has turned. -/
theorem pick_any (n : Int) (k : Nat) (a : Option Addr) (len cap r : Nat) (w : World) (hn : 1 ≤ n) (hp2 : k ≤ 1000000) (hB : Bytes w r a len)
    (h0 : w.cell? ⟨r, 0, none⟩ = some (.slice a len cap)) (h1 : w.cell? ⟨r, 1, none⟩ = some (.int .i64 k)) (hf : w.frozen? ⟨r, 1, none⟩ = false) :
    Calls Tryd.prog 44 #[.pointer (some ⟨r, 0, none⟩), .int .i64 n] w fun e w' => (∃ v, e = .returned (.int .i64 v) ∧ 0 ≤ v ∧ v < n) ∧ ∃ m, w' = (w.setCell ⟨r, 1, none⟩ (.int .i64 (k + 1))).drewN m := by
  rcases hB with rfl | ⟨b, o, z, rfl, hbr, _, hz⟩
  all_goals try (have hbr' : b ≠ r := by omega)
  · refine (pick_nil n k a cap r w hn (by omega) (by omega) h0 h1 hf).mono ?_
    rintro e w' ⟨rfl, rfl⟩
    exact ⟨⟨0, rfl, by omega, by omega⟩, 0, rfl⟩
  · by_cases hk : k < len
    · obtain ⟨hc, hz0, hz1⟩ := hz k hk
      refine (pick_in n k len cap r b o (z k) w hn hk hp2 hbr' hz0 hz1 h0 h1 hf hc).mono ?_
      rintro e w' ⟨rfl, rfl⟩
      exact ⟨⟨_, rfl, Int.emod_nonneg _ (by omega), Int.emod_lt_of_pos _ (by omega)⟩, 0, rfl⟩
    · by_cases hl : len = 0
      · subst hl
        refine (pick_nil n k _ cap r w hn (by omega) (by omega) h0 h1 hf).mono ?_
        rintro e w' ⟨rfl, rfl⟩
        exact ⟨⟨0, rfl, by omega, by omega⟩, 0, rfl⟩
      · obtain ⟨c1, z10, z11⟩ := hz (k % len) (Nat.mod_lt _ (by omega))
        obtain ⟨c2, z20, z21⟩ := hz ((k * 7 + 3) % len) (Nat.mod_lt _ (by omega))
        exact pick_out n k len cap r b o _ _ w hn (by omega) (by omega) hp2 hbr' z10 z11 z20 z21 h0 h1 hf c1 c2
end Go.Proofs.YtfdnadiliedikaaDoor
