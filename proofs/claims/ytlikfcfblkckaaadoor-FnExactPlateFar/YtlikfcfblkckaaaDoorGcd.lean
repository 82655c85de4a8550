/-
  OUR OWN TEXT. Both programs' loops for the greatest common divisor, by contract: called at numbers not below 0 they answer it; the world is as it was but for draws.
-/
import Derived.Test.YtlikfcfblkckaaaDoorMath
import Derived.Test.YtlikfcfblkckaaaDoorBw
import Derived.WalkKit
import Derived.Deep.QuietTactic
import Derived.BigQuiet
namespace Go.Proofs.YtlikfcfblkckaaaDoor
open Go.RowKit


set_option maxHeartbeats 400000 in
theorem gcd_impl_nat (k l : Nat) (w : World) (hk : k ≤ 1000000) (hl : l ≤ 1000000) :
    Calls Tryd.prog 70 #[.int .i64 k, .int .i64 l] w fun e w' => e = .returned (.int .i64 (Nat.gcd k l : Nat)) ∧ ∃ n, w' = w.drewN n := by
  go_enter Tryd.func70, Tryd.ntmps70
  go_wp2
  go_loopw [0, 1] (fun a b wr => ∃ x y n : Nat, x ≤ 1000000 ∧ y ≤ 1000000 ∧ a = .int .i64 x ∧ b = .int .i64 y ∧ Hid (Nat.gcd x y = Nat.gcd k l) ∧ wr = w.drewN n) (fun _ b _ => (intOf b).toNat)
  case atStart => exact ⟨k, l, 0, hk, hl, rfl, rfl, rfl, rfl⟩
  case round =>
    obtain ⟨x, y, n, hx, hy, rfl, rfl, hg, rfl⟩ := hrel
    by_cases h0 : y = 0
    · have H0 : Hid (y = 0) := h0
      have hz : ((y : Int) != 0) = false := by simp [h0]
      clear h0
      go_wp2
      go_ret
      have h0 := H0.out
      have hG := hg.out
      subst h0
      rw [Nat.gcd_zero_right] at hG
      exact ⟨ret_int (by rw [hG]), n, rfl⟩
    · have h1 : (1 : Int) ≤ (y : Int) := by omega
      have hz : ((y : Int) != 0) = true := by simp; omega
      have HG : Hid (Nat.gcd y (x % y) = Nat.gcd k l) := by rw [gcd_step]; exact hg
      have hm : x % y < y := Nat.mod_lt _ (by omega)
      clear h0 hg
      go_wp2
      go_quiet (fail)
      go_wp2
      exact ⟨⟨y, x % y, n + nq, hy, by omega, rfl, by go_num, HG, World.drewN_drewN _ _ _⟩, by simp [intOf]; omega⟩
theorem gcd_impl (a b : Int) (w : World) (ha : 0 ≤ a) (hb : 0 ≤ b) (hk : a ≤ 1000000) (hl : b ≤ 1000000) :
    Calls Tryd.prog 70 #[.int .i64 a, .int .i64 b] w fun e w' => e = .returned (.int .i64 (G a b)) ∧ ∃ n, w' = w.drewN n := by
  obtain ⟨k, rfl⟩ := Int.eq_ofNat_of_zero_le ha
  obtain ⟨l, rfl⟩ := Int.eq_ofNat_of_zero_le hb
  rw [G_nat]
  exact gcd_impl_nat k l w (by omega) (by omega)

set_option maxHeartbeats 400000 in
theorem gcd_spec_nat (k l : Nat) (w : World) (hk : k ≤ 1000000) (hl : l ≤ 1000000) :
    Calls Tryd.prog 81 #[.int .i64 k, .int .i64 l] w fun e w' => e = .returned (.int .i64 (Nat.gcd k l : Nat)) ∧ ∃ n, w' = w.drewN n := by
  go_enter Tryd.func81, Tryd.ntmps81
  go_wp2
  go_loopw [0, 1] (fun a b wr => ∃ x y n : Nat, x ≤ 1000000 ∧ y ≤ 1000000 ∧ a = .int .i64 x ∧ b = .int .i64 y ∧ Hid (Nat.gcd x y = Nat.gcd k l) ∧ wr = w.drewN n) (fun _ b _ => (intOf b).toNat)
  case atStart => exact ⟨k, l, 0, hk, hl, rfl, rfl, rfl, rfl⟩
  case round =>
    obtain ⟨x, y, n, hx, hy, rfl, rfl, hg, rfl⟩ := hrel
    by_cases h0 : y = 0
    · have H0 : Hid (y = 0) := h0
      have hz : (y : Int) ≤ 0 := by omega
      clear h0
      go_wp2
      go_ret
      have h0 := H0.out
      have hG := hg.out
      subst h0
      rw [Nat.gcd_zero_right] at hG
      exact ⟨ret_int (by rw [hG]), n, rfl⟩
    · have h1 : (1 : Int) ≤ (y : Int) := by omega
      have hz : (0 : Int) < (y : Int) := by omega
      have HG : Hid (Nat.gcd y (x % y) = Nat.gcd k l) := by rw [gcd_step]; exact hg
      have hm : x % y < y := Nat.mod_lt _ (by omega)
      clear h0 hg
      go_wp2
      go_quiet (fail)
      go_wp2
      exact ⟨⟨y, x % y, n + nq, hy, by omega, rfl, by go_num, HG, World.drewN_drewN _ _ _⟩, by simp [intOf]; omega⟩
theorem gcd_spec (a b : Int) (w : World) (ha : 0 ≤ a) (hb : 0 ≤ b) (hk : a ≤ 1000000) (hl : b ≤ 1000000) :
    Calls Tryd.prog 81 #[.int .i64 a, .int .i64 b] w fun e w' => e = .returned (.int .i64 (G a b)) ∧ ∃ n, w' = w.drewN n := by
  obtain ⟨k, rfl⟩ := Int.eq_ofNat_of_zero_le ha
  obtain ⟨l, rfl⟩ := Int.eq_ofNat_of_zero_le hb
  rw [G_nat]
  exact gcd_spec_nat k l w (by omega) (by omega)
end Go.Proofs.YtlikfcfblkckaaaDoor
