/-
  OUR OWN TEXT. Plain arithmetic of fractions: the greatest common divisor as both programs reckon it, what an ok fraction is, how two are compared. No program stands in it.
-/
import Derived.Test.YtfdnadiliedikaaDoorChecked
namespace Go.Proofs.YtfdnadiliedikaaDoor
/-- The greatest number that divides both. -/
def G (n d : Int) : Int := (Nat.gcd n.toNat d.toNat : Nat)
theorem G_nat (k l : Nat) : G k l = (Nat.gcd k l : Nat) := by simp [G]
theorem gcd_step (k l : Nat) : Nat.gcd l (k % l) = Nat.gcd k l := by
  rw [Nat.gcd_comm k l, Nat.gcd_rec l k, Nat.gcd_comm]
theorem G_pos (n d : Int) (hd : 1 ≤ d) : 1 ≤ G n d := by
  have h : 0 < Nat.gcd n.toNat d.toNat := Nat.gcd_pos_of_pos_right _ (by omega)
  unfold G; omega
theorem G_le (n d : Int) (hd : 1 ≤ d) : G n d ≤ d := by
  have h : Nat.gcd n.toNat d.toNat ≤ d.toNat := Nat.gcd_le_right _ (by omega)
  unfold G; omega
theorem G_dvd_left (n d : Int) (hn : 0 ≤ n) : G n d ∣ n := by
  have h := Nat.gcd_dvd_left n.toNat d.toNat
  have h2 : ((Nat.gcd n.toNat d.toNat : Nat) : Int) ∣ (n.toNat : Int) := Int.ofNat_dvd.2 h
  rw [Int.toNat_of_nonneg hn] at h2
  exact h2
theorem G_dvd_right (n d : Int) (hn : 0 ≤ d) : G n d ∣ d := by
  have h := Nat.gcd_dvd_right n.toNat d.toNat
  have h2 : ((Nat.gcd n.toNat d.toNat : Nat) : Int) ∣ (d.toNat : Int) := Int.ofNat_dvd.2 h
  rw [Int.toNat_of_nonneg hn] at h2
  exact h2
theorem div_self_iff (d g : Int) (hd : 1 ≤ d) (_hg : 1 ≤ g) : d / g = d ↔ g = 1 := by
  constructor
  · intro h
    by_cases h1 : g = 1
    · exact h1
    · have := Int.ediv_lt_self_of_pos_of_ne_one (x := d) (y := g) (by omega) h1
      omega
  · intro h; subst h; simp
/-- Both numbers are within their limits. -/
def inB (n d : Int) : Bool := decide (0 ≤ n ∧ n ≤ 99999 ∧ 1 ≤ d ∧ d ≤ 99999)
theorem inB_iff (n d : Int) : inB n d = true ↔ (0 ≤ n ∧ n ≤ 99999 ∧ 1 ≤ d ∧ d ≤ 99999) := by simp [inB]
theorem inB_not (n d : Int) : inB n d = false ↔ ¬ (0 ≤ n ∧ n ≤ 99999 ∧ 1 ≤ d ∧ d ≤ 99999) := by simp only [inB, decide_eq_false_iff_not]
/-- An ok fraction. -/
def okB (n d : Int) : Bool := decide (0 ≤ n ∧ n ≤ 99999 ∧ 1 ≤ d ∧ d ≤ 99999 ∧ G n d = 1)
theorem okB_iff (n d : Int) : okB n d = true ↔ (0 ≤ n ∧ n ≤ 99999 ∧ 1 ≤ d ∧ d ≤ 99999 ∧ G n d = 1) := by simp [okB]
theorem okB_not (n d : Int) : okB n d = false ↔ ¬ (0 ≤ n ∧ n ≤ 99999 ∧ 1 ≤ d ∧ d ≤ 99999 ∧ G n d = 1) := by simp only [okB, decide_eq_false_iff_not]
/-- How two fractions compare: -1, 0 or 1. -/
def cmpI (x y : Int) : Int := if x < y then -1 else if y < x then 1 else 0
/-- What FracOf answers above and below. -/
def ofN (n d : Int) : Int := if inB n d then n / G n d else 0
def ofD (n d : Int) : Int := if inB n d then d / G n d else 0
end Go.Proofs.YtfdnadiliedikaaDoor
