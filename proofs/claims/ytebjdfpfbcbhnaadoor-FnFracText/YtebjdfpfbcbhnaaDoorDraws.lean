/-
  OUR OWN TEXT. The specification's four draws of fractions, by contract: whatever bytes come in, small numbers come out, and nothing that was there is written.
-/
import Derived.Test.YtebjdfpfbcbhnaaDoorDraw
namespace Go.Proofs.YtebjdfpfbcbhnaaDoor
open Go.RowKit

/-- The bounds of a drawn fraction. -/
def FrB (n d : Int) : Prop := -1 ≤ n ∧ n ≤ 100000 ∧ 0 ≤ d ∧ d ≤ 100

theorem drawOk_any {a : Option Addr} {len cap : Nat} {zs : List Int} (w0 w : World) (h : IsRow .u8 w0 a len cap zs) (hb : Below w0.heap.size w0 w) :
    Calls Tryd.prog 21 #[.slice a len cap] w fun e w' => ∃ n d : Int, e = .returned (.agg #[.int .i64 n, .int .i64 d]) ∧ FrB n d ∧ Below w.heap.size w w' := by
  go_enter Tryd.func21, Tryd.ntmps21
  go_wp2_with fail
  refine (open_rd w0 _ h (bw_alloc hb _)).mono ?_
  rintro e w1 ⟨len', rfl, R1, hb1⟩
  have B1 := (hb1.block w.heap.size (by rw [size_new]; omega)).trans (heap_new _ _)
  have P1 := bw_trans (bw_alloc (bw_refl w) _) hb1
  rw [size_new] at R1
  go_wp2_with fail
  refine (l71Frac_any 0 a len' cap _ _ (by omega) R1).mono ?_
  rintro e w2 ⟨n, d, k', rfl, hbd, _, R2, O2⟩
  have B2 := (O2.block w.heap.size (by omega) (by have := R1.lt; omega)).trans B1
  have P2 := P1.trans (O2.below' (by omega) (by have := R1.lt; omega))
  obtain ⟨hb0, hb1', hg0, hg1⟩ := blk2 B2
  clear R1 R2 O2 B1 B2 P1 hb1
  go_wp2_with fail
  exact bodyPost_ret (v := .agg #[.int .i64 n, .int .i64 d]) (by simp [results, Tryd.results21, go_sem, hb0, hb1']) rfl ⟨n, d, rfl, hbd, (P2.setCell (Nat.le_refl _) _).setCell (Nat.le_refl _) _⟩

theorem drawText_any {a : Option Addr} {len cap : Nat} {zs : List Int} (w0 w : World) (h : IsRow .u8 w0 a len cap zs) (hb : Below w0.heap.size w0 w) :
    Calls Tryd.prog 22 #[.slice a len cap] w fun e w' => ∃ n d : Int, e = .returned (.agg #[.int .i64 n, .int .i64 d]) ∧ FrB n d ∧ Below w.heap.size w w' := by
  go_enter Tryd.func22, Tryd.ntmps22
  go_wp2_with fail
  refine (open_rd w0 _ h (bw_alloc hb _)).mono ?_
  rintro e w1 ⟨len', rfl, R1, hb1⟩
  have B1 := (hb1.block w.heap.size (by rw [size_new]; omega)).trans (heap_new _ _)
  have P1 := bw_trans (bw_alloc (bw_refl w) _) hb1
  rw [size_new] at R1
  go_wp2_with fail
  refine (l71Frac_any 0 a len' cap _ _ (by omega) R1).mono ?_
  rintro e w2 ⟨n, d, k', rfl, hbd, _, R2, O2⟩
  have B2 := (O2.block w.heap.size (by omega) (by have := R1.lt; omega)).trans B1
  have P2 := P1.trans (O2.below' (by omega) (by have := R1.lt; omega))
  obtain ⟨hb0, hb1', hg0, hg1⟩ := blk2 B2
  clear R1 R2 O2 B1 B2 P1 hb1
  go_wp2_with fail
  exact bodyPost_ret (v := .agg #[.int .i64 n, .int .i64 d]) (by simp [results, Tryd.results22, go_sem, hb0, hb1']) rfl ⟨n, d, rfl, hbd, (P2.setCell (Nat.le_refl _) _).setCell (Nat.le_refl _) _⟩


theorem drawOf_any {a : Option Addr} {len cap : Nat} {zs : List Int} (w0 w : World) (h : IsRow .u8 w0 a len cap zs) (hb : Below w0.heap.size w0 w) :
    Calls Tryd.prog 13 #[.slice a len cap] w fun e w' => ∃ n d : Int, e = .returned (.tuple #[.int .i64 n, .int .i64 d]) ∧ (-200 ≤ n ∧ n ≤ 100 ∧ 0 ≤ d ∧ d ≤ 100040) ∧ Below w.heap.size w w' := by
  go_enter Tryd.func13, Tryd.ntmps13
  go_wp2_with fail
  refine (open_rd w0 _ h hb).mono ?_
  rintro e w1 ⟨len', rfl, R1, hb1⟩
  go_wp2_with fail
  refine (pick_rd 100 0 a len' cap _ _ (by omega) (by omega) R1).mono ?_
  rintro e w2 ⟨v1, rfl, v1a, v1b, R2, O2⟩
  go_wp2_with fail
  refine (pick_rd 12 1 a len' cap _ _ (by omega) (by omega) R2).mono ?_
  rintro e w3 ⟨v2, rfl, v2a, v2b, R3, O3⟩
  go_wp2_with fail
  refine (pick_rd 40 2 a len' cap _ _ (by omega) (by omega) R3).mono ?_
  rintro e w4 ⟨v3, rfl, v3a, v3b, R4, O4⟩
  go_wp2_with fail
  refine (pick_rd 16 3 a len' cap _ _ (by omega) (by omega) R4).mono ?_
  rintro e w5 ⟨v4, rfl, v4a, v4b, R5, O5⟩
  have P := hb1.trans (((O2.trans O3).trans (O4.trans O5)).below' (Nat.le_refl _) (Nat.le_of_lt R1.lt))
  clear R1 R2 R3 R4 R5 O2 O3 O4 O5 hb1
  go_wp2_with fail
  go_ret2
  exact ⟨_, _, rfl, by omega, P⟩

set_option maxHeartbeats 1000000 in
theorem drawCmp_any {a : Option Addr} {len cap : Nat} {zs : List Int} (w0 w : World) (h : IsRow .u8 w0 a len cap zs) (hb : Below w0.heap.size w0 w) :
    Calls Tryd.prog 17 #[.slice a len cap] w fun e w' => ∃ n d m b : Int, e = .returned (.tuple #[.agg #[.int .i64 n, .int .i64 d], .agg #[.int .i64 m, .int .i64 b]]) ∧ FrB n d ∧ FrB m b ∧ Below w.heap.size w w' := by
  go_enter Tryd.func17, Tryd.ntmps17
  go_wp2_with fail
  refine (open_rd w0 _ h (bw_alloc (bw_alloc hb _) _)).mono ?_
  rintro e w1 ⟨len', rfl, R1, hb1⟩
  have A1 := (hb1.block w.heap.size (by simp only [size_new]; omega)).trans ((heap_old _ _ (by simp only [size_new]; omega)).trans (heap_new _ _))
  have B1 := (hb1.block (w.heap.size + 1) (by simp only [size_new]; omega)).trans (heap_new1 _ _ _)
  have P1 := bw_trans (bw_alloc (bw_alloc (bw_refl w) _) _) hb1
  simp only [size_new] at R1
  clear hb1
  go_wp2_with fail
  refine (l71Frac_any 0 a len' cap _ _ (by omega) R1).mono ?_
  rintro e w2 ⟨n, d, k2, rfl, hbd, hk2, R2, O2⟩
  have hr1 := R1.lt
  have A2 := (O2.block w.heap.size (by omega) (by omega)).trans A1
  have B2 := (O2.block (w.heap.size + 1) (by omega) (by omega)).trans B1
  have P2 := P1.trans (O2.below' (by omega) (by omega))
  have S2 := O2.size
  clear R1 O2 A1 B1 P1
  go_wp2_with fail
  refine (pick_rd 4 k2 a len' cap _ _ (by omega) (by omega) (R2.alloc _)).mono ?_
  rintro e w3 ⟨v, rfl, va, vb, R3, O3⟩
  have A3 := (O3.block w.heap.size (by omega) (by simp only [size_new]; omega)).trans ((heap_old _ _ (by omega)).trans A2)
  have B3 := (O3.block (w.heap.size + 1) (by omega) (by simp only [size_new]; omega)).trans ((heap_old _ _ (by omega)).trans B2)
  have F3 := (O3.block w2.heap.size (by omega) (by simp only [size_new]; omega)).trans (heap_new _ _)
  have P3 := (bw_alloc P2 _).trans (O3.below' (by omega) (by simp only [size_new]; omega))
  have S3 : w2.heap.size < w3.heap.size := by have := O3.size; simp only [size_new] at this; omega
  clear R2 O3 A2 B2 P2
  by_cases hv : v = 0
  · subst hv
    obtain ⟨ha0, ha1, hp0, hp1⟩ := blk2 A3
    obtain ⟨hb0, hb1, hg0, hg1⟩ := blk2 B3
    obtain ⟨hf0, hf1, hh0, hh1⟩ := blk2 F3
    have hne1 : w.heap.size ≠ w2.heap.size := by omega
    have hne2 : w.heap.size + 1 ≠ w2.heap.size := by omega
    clear R3 A3 B3 F3
    go_wp2_with fail
    go_region
    all_goals go_wp2
    all_goals exact bodyPost_ret (v := .tuple #[.agg #[.int .i64 n, .int .i64 d], .agg #[.int .i64 n, .int .i64 d]]) (by simp [results, Tryd.results17, go_sem, ha0, ha1, hb0, hb1]) rfl ⟨n, d, n, d, rfl, hbd, hbd, by repeat (first | exact P3 | apply Below.drew | refine Below.setCell ?_ (by simp) _)⟩
  · have hv' : (v == 0) = false := by simpa using hv
    obtain ⟨hf0, hf1, hh0, hh1⟩ := blk2 F3
    have hne1 : w.heap.size ≠ w2.heap.size := by omega
    have hne2 : w.heap.size + 1 ≠ w2.heap.size := by omega
    go_wp2_with fail
    go_region_with (go_at_call 34; refine (l71Frac_any (k2 + 1) a len' cap _ _ ?_ ?_).mono ?_; omega; exact R3; rintro e w4 ⟨m, b, k4, rfl, hbd4, hk4, R4, O4⟩; obtain ⟨qa0, qa1, qp0, qp1⟩ := blk2 ((O4.block w.heap.size (by omega) (by show w.heap.size < w3.heap.size; omega)).trans A3); obtain ⟨qb0, qb1, qg0, qg1⟩ := blk2 ((O4.block (w.heap.size + 1) (by omega) (by show w.heap.size + 1 < w3.heap.size; omega)).trans B3); obtain ⟨qf0, qf1, qh0, qh1⟩ := blk2 ((O4.block w2.heap.size (by omega) (by show w2.heap.size < w3.heap.size; omega)).trans F3); have P4 := P3.drew.trans (O4.below' (B := w.heap.size) (by omega) (by show w.heap.size ≤ w3.heap.size; omega)))
    all_goals go_wp2
    all_goals exact bodyPost_ret (v := .tuple #[.agg #[.int .i64 n, .int .i64 d], .agg #[.int .i64 m, .int .i64 b]]) (by simp [results, Tryd.results17, go_sem, qa0, qa1, qb0, qb1]) rfl ⟨n, d, m, b, rfl, hbd, hbd4, by repeat (first | exact P4 | apply Below.drew | refine Below.setCell ?_ (by simp) _)⟩
end Go.Proofs.YtebjdfpfbcbhnaaDoor
